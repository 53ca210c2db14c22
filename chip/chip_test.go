package chip

import (
	"bytes"
	"math/rand"
	"testing"

	"shale/api"
)

func at(block, page int) api.Place { return api.Place{Block: block, Page: page} }

func made(t *testing.T, blocks, pages, size, levels int, marked []int, plan ...api.Fault) *Chip {
	t.Helper()
	c, err := New(blocks, pages, size, levels, marked, plan)
	if err != nil {
		t.Fatal(err)
	}
	return c
}

func same(t *testing.T, what string, got []byte, err, wantErr error, want ...byte) {
	t.Helper()
	if !bytes.Equal(got, want) || err != wantErr {
		t.Errorf("%s: %v %v", what, got, err)
	}
}

func TestExamples(t *testing.T) {
	c := made(t, 8, 4, 2, 1, nil, api.Fault{Op: 1, Kind: api.Flip, Bits: []int{0}}, api.Fault{Op: 2, Kind: api.Cut, N: 1})
	if err := c.Program(at(0, 0), []byte{1, 2}); err != nil {
		t.Error(err)
	}
	b, err := c.Read(at(0, 0), 0)
	same(t, "flipped", b, err, nil, 0, 2)
	if err := c.Program(at(0, 1), []byte{3, 4}); err != api.ErrDead || c.On() {
		t.Error(err)
	}
	same(t, "cut", c.Cells(at(0, 1)), nil, nil, 3, 255)
	c.Power()
	b, err = c.Read(at(0, 0), 0)
	same(t, "whole", b, err, nil, 1, 2)
	if err := c.Program(at(0, 1), []byte{1, 1}); err != nil || c.Broken() != 1 {
		t.Error("the rule", err)
	}
	if _, err := c.Read(at(9, 0), 0); err != api.ErrOrder {
		t.Error(err)
	}
	if err := c.Program(at(0, 2), []byte{1}); err != api.ErrSize {
		t.Error(err)
	}
}

func TestNew(t *testing.T) {
	many := make([]api.Fault, api.MaxFaults+1)
	for _, x := range []struct {
		blocks, pages, size, levels int
		marked                      []int
		plan                        []api.Fault
		err                         error
	}{
		{1, 1, 1, 1, nil, nil, nil}, {64, 64, 4096, 8, []int{0, 63, 0}, many[1:], nil},
		{0, 1, 1, 1, []int{9}, many, api.ErrGeometry}, {65, 1, 1, 1, nil, nil, api.ErrGeometry}, {1, 0, 1, 1, nil, nil, api.ErrGeometry}, {1, 65, 1, 1, nil, nil, api.ErrGeometry},
		{1, 1, 0, 1, nil, nil, api.ErrGeometry}, {1, 1, 4097, 1, nil, nil, api.ErrGeometry}, {1, 1, 1, 0, nil, nil, api.ErrGeometry}, {1, 1, 1, 9, nil, nil, api.ErrGeometry},
		{4, 1, 1, 1, []int{4}, many, api.ErrNumber}, {4, 1, 1, 1, []int{-1}, nil, api.ErrNumber}, {4, 1, 1, 1, nil, many, api.ErrMany},
	} {
		c, err := New(x.blocks, x.pages, x.size, x.levels, x.marked, x.plan)
		if err != x.err || (c == nil) != (err != nil) {
			t.Error(x.blocks, x.pages, x.size, x.levels, err)
		}
		if err != nil {
			continue
		}
		a, b, s, l := c.Shape()
		if a != x.blocks || b != x.pages || s != x.size || l != x.levels || !c.On() || c.Ops() != 0 || c.Broken() != 0 {
			t.Error("Shape")
		}
	}
}

func TestArguments(t *testing.T) {
	c := made(t, 2, 3, 2, 2, []int{1})
	for _, p := range []api.Place{at(-1, 0), at(2, 0), at(0, -1), at(0, 3), at(1<<62, 0)} {
		if b, err := c.Read(p, 0); len(b) != 0 || err != api.ErrOrder {
			t.Error("Read", p)
		}
		if err := c.Program(p, nil); err != api.ErrOrder {
			t.Error("Program", p)
		}
		if c.Used(p) || len(c.Cells(p)) != 0 {
			t.Error("looks", p)
		}
	}
	for _, l := range []int{-1, 2} {
		if b, err := c.Read(at(0, 0), l); len(b) != 0 || err != api.ErrOrder {
			t.Error("level", l)
		}
	}
	for _, b := range []int{-1, 2} {
		if c.Erase(b) != api.ErrOrder || c.Marked(b) || c.Worn(b) != 0 {
			t.Error("block", b)
		}
	}
	if c.Program(at(0, 0), make([]byte, 3)) != api.ErrSize || c.Marked(0) || !c.Marked(1) || c.Ops() != 0 {
		t.Error("size, or what is asked first is counted")
	}
	c.Plan([]api.Fault{{Op: 0, Kind: api.Cut}})
	if c.Erase(0) != api.ErrDead || c.Ops() != 1 {
		t.Error("cut")
	}
	if _, err := c.Read(at(9, 9), 9); err != api.ErrDead || c.Erase(9) != api.ErrDead || c.Program(at(9, 9), nil) != api.ErrDead || c.Ops() != 1 || c.On() {
		t.Error("the power is off")
	}
	if c.Plan(make([]api.Fault, api.MaxFaults+1)) != api.ErrMany {
		t.Error("Plan")
	}
}

// TestAnd: bits go from 0 to 1 by Erase alone.
func TestAnd(t *testing.T) {
	r := rand.New(rand.NewSource(1))
	c := made(t, 3, 4, 5, 1, nil)
	cells := map[api.Place][]byte{}
	for range 2000 {
		p := at(r.Intn(3), r.Intn(4))
		if r.Intn(9) == 0 {
			if c.Erase(p.Block) != nil {
				t.Fatal("Erase")
			}
			for i := range 4 {
				delete(cells, at(p.Block, i))
			}
			continue
		}
		b := make([]byte, 5)
		r.Read(b)
		used, behind, ahead := c.Used(p), false, false
		for i := range 4 {
			behind = behind || i > p.Page && c.Used(at(p.Block, i))
			ahead = ahead || i < p.Page && !c.Used(at(p.Block, i))
		}
		was := c.Broken()
		if c.Program(p, b) != nil || (c.Broken() > was) != (used || behind || ahead) || c.Broken() > was+1 {
			t.Fatal("Broken")
		}
		if cells[p] == nil {
			cells[p] = bytes.Repeat([]byte{255}, 5)
		}
		for i := range b {
			cells[p][i] &= b[i]
		}
		got, err := c.Read(p, 0)
		same(t, "Read", got, err, nil, cells[p]...)
		got[0] ^= 255
		c.Cells(p)[0] ^= 255
		same(t, "Cells", c.Cells(p), nil, nil, cells[p]...)
	}
}

func TestProgramFaults(t *testing.T) {
	for _, x := range []struct {
		plan []api.Fault
		want []byte
		err  error
	}{
		{[]api.Fault{{Kind: api.Fail, N: 1}}, []byte{0, 255, 255}, api.ErrFailed},
		{[]api.Fault{{Kind: api.Fail, N: -5}}, []byte{255, 255, 255}, api.ErrFailed},
		{[]api.Fault{{Kind: api.Fail, N: 1 << 62}}, []byte{0, 0, 0}, api.ErrFailed},
		{[]api.Fault{{Kind: api.Cut, N: 2}}, []byte{0, 0, 255}, api.ErrDead},
		{[]api.Fault{{Kind: api.Cut, N: -1}}, []byte{255, 255, 255}, api.ErrDead},
		{[]api.Fault{{Kind: api.Fail, N: 0}, {Kind: api.Cut, N: 2}, {Kind: api.Cut, N: 1}}, []byte{0, 0, 255}, api.ErrDead},
		{[]api.Fault{{Kind: api.Fail, N: 2}, {Kind: api.Fail, N: 1}}, []byte{0, 0, 255}, api.ErrFailed},
		{[]api.Fault{{Kind: api.Spoil, Bits: []int{0, 9, 24, -1, 1 << 60}}, {Kind: api.Spoil, Bits: []int{0, 1}}}, []byte{2, 2, 0}, nil},
		{[]api.Fault{{Kind: api.Spoil, Bits: []int{0, 9}}, {Kind: api.Fail, N: 1}}, []byte{1, 255, 255}, api.ErrFailed},
		{[]api.Fault{{Kind: api.Flip, Level: -1, Bits: []int{0}}, {Kind: 9}, {Kind: 0}, {Op: 1, Kind: api.Cut}, {Op: -1, Kind: api.Cut}}, []byte{0, 0, 0}, nil},
	} {
		c := made(t, 2, 2, 3, 1, nil, x.plan...)
		var laid []byte
		c.Watch(func(_ api.Place, _ int, _, l []byte) { laid = l })
		if err := c.Program(at(0, 0), []byte{0, 0, 0}); err != x.err || c.On() != (err != api.ErrDead) {
			t.Error(x.plan, err)
		}
		same(t, "cells", c.Cells(at(0, 0)), nil, nil, x.want...)
		if !c.Used(at(0, 0)) || c.Ops() != 1 {
			t.Error("Used, Ops")
		}
		c.Plan(nil)
		c.Power()
		b, err := c.Read(at(0, 0), 0)
		same(t, "Read", b, err, nil, x.want...)
		same(t, "laid", laid, nil, nil, 0, 0, 0)
	}
}

func TestEraseFaults(t *testing.T) {
	for _, x := range []struct {
		plan []api.Fault
		used int
		worn int
		err  error
	}{
		{nil, 0, 1, nil}, {[]api.Fault{{Op: 3, Kind: api.Fail, N: 2}}, 3, 0, api.ErrFailed}, {[]api.Fault{{Op: 3, Kind: api.Cut, N: 2}}, 1, 0, api.ErrDead},
		{[]api.Fault{{Op: 3, Kind: api.Cut, N: -2}}, 3, 0, api.ErrDead}, {[]api.Fault{{Op: 3, Kind: api.Cut, N: 99}}, 0, 0, api.ErrDead},
		{[]api.Fault{{Op: 3, Kind: api.Fail}, {Op: 3, Kind: api.Cut, N: 1}}, 2, 0, api.ErrDead}, {[]api.Fault{{Op: 3, Kind: api.Spoil, Bits: []int{1}}, {Op: 3, Kind: api.Flip, Level: -1, Bits: []int{1}}}, 0, 1, nil},
	} {
		c := made(t, 2, 3, 1, 1, nil, x.plan...)
		for i := range 3 {
			c.Program(at(1, i), []byte{0})
		}
		if err := c.Erase(1); err != x.err || c.Worn(1) != x.worn || c.Worn(0) != 0 {
			t.Error(x, err, c.Worn(1))
		}
		used := 0
		for i := range 3 {
			if c.Used(at(1, i)) {
				used++
			}
			want := byte(255)
			if i >= 3-x.used {
				want = 0
			}
			same(t, "cells", c.Cells(at(1, i)), nil, nil, want)
		}
		if used != x.used || c.Ops() != 4 || c.Broken() != 0 {
			t.Error(x, used)
		}
	}
}

func TestReadFaults(t *testing.T) {
	c := made(t, 1, 1, 2, 3, nil,
		api.Fault{Op: 0, Kind: api.Flip, Level: 1, Bits: []int{0}}, api.Fault{Op: 0, Kind: api.Flip, Level: 0, Bits: []int{1, 1, 2}}, api.Fault{Op: 0, Kind: api.Flip, Level: -1, Bits: []int{16, -1, 15, 3, 2}},
		api.Fault{Op: 1, Kind: api.Fail}, api.Fault{Op: 1, Kind: api.Spoil, Bits: []int{0}}, api.Fault{Op: 2, Kind: api.Cut, N: 5}, api.Fault{Op: 2, Kind: api.Flip, Level: -1, Bits: []int{0}})
	b, err := c.Read(at(0, 0), 0)
	same(t, "flips", b, err, nil, 255^8, 127)
	b, err = c.Read(at(0, 0), 2)
	same(t, "none for it", b, err, nil, 255, 255)
	seen := 0
	c.Watch(func(api.Place, int, []byte, []byte) { seen++ })
	b, err = c.Read(at(0, 0), 1)
	same(t, "cut", b, err, api.ErrDead)
	if seen != 0 || c.Ops() != 3 {
		t.Error("a cut read is told")
	}
}

func TestWatch(t *testing.T) {
	c := made(t, 2, 2, 1, 2, nil, api.Fault{Op: 1, Kind: api.Flip, Level: 1, Bits: []int{7}}, api.Fault{Op: 0, Kind: api.Spoil, Bits: []int{0}})
	c.Program(at(1, 0), []byte{5})
	var p api.Place
	var level, n int
	var got, laid []byte
	c.Watch(func(q api.Place, l int, g, d []byte) {
		p, level, got, laid = q, l, bytes.Clone(g), bytes.Clone(d)
		n++
		for i := range g {
			g[i] ^= 255
		}
		for i := range d {
			d[i] ^= 255
		}
	})
	for range 2 {
		b, err := c.Read(at(1, 0), 1)
		if p != at(1, 0) || level != 1 || !bytes.Equal(b, got) || !bytes.Equal(laid, []byte{5}) || err != nil {
			t.Error(p, level, got, laid)
		}
	}
	c.Read(at(0, 1), 0)
	if p != at(0, 1) || level != 0 || !bytes.Equal(got, []byte{255}) || len(laid) != 0 || n != 3 {
		t.Error("nothing laid")
	}
	c.Erase(1)
	c.Read(at(1, 0), 0)
	if len(laid) != 0 || n != 4 {
		t.Error("laid, and erased")
	}
	c.Read(at(9, 9), 0)
	c.Clone().Read(at(0, 0), 0)
	c.Watch(nil)
	c.Read(at(0, 0), 0)
	if n != 4 {
		t.Error("told what it should not be")
	}
}

func TestClone(t *testing.T) {
	c := made(t, 2, 2, 1, 1, []int{1}, api.Fault{Op: 4, Kind: api.Fail}, api.Fault{Op: 5, Kind: api.Cut})
	c.Program(at(0, 1), []byte{5})
	c.Erase(0)
	c.Program(at(0, 0), []byte{9})
	d := c.Clone()
	if d.Ops() != 3 || d.Broken() != 1 || d.Worn(0) != 1 || !d.Marked(1) || !d.Used(at(0, 0)) || !d.On() {
		t.Error("not the same")
	}
	d.Erase(0)
	if d.Program(at(0, 0), []byte{1}) != api.ErrFailed || d.Erase(0) != api.ErrDead {
		t.Error("the plan")
	}
	if c.Ops() != 3 || c.Worn(0) != 1 || !c.On() || !c.Used(at(0, 0)) || c.Cells(at(0, 0))[0] != 9 {
		t.Error("it hangs on it")
	}
	c.Plan(nil)
	e := d.Clone()
	if e.On() {
		t.Error("the power")
	}
	d.Power()
	if e.On() || d.Erase(0) != nil {
		t.Error("Power")
	}
}

func TestKept(t *testing.T) {
	bits, marked, b := []int{0}, []int{0}, []byte{7}
	plan := []api.Fault{{Op: 1, Kind: api.Flip, Level: -1, Bits: bits}}
	c := made(t, 2, 2, 1, 1, marked, plan...)
	c.Plan(plan)
	c.Program(at(0, 0), b)
	bits[0], marked[0], b[0], plan[0].Op = 5, 1, 0, 7
	if got, _ := c.Read(at(0, 0), 0); got[0] != 6 || !c.Marked(0) || c.Marked(1) {
		t.Error("what was handed in is kept", got)
	}
}
