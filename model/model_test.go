package model_test

import (
	"bytes"
	"errors"
	"math/rand"
	"slices"
	"testing"

	"shale/api"
	"shale/disk"
	"shale/model"
)

func made(t *testing.T, sectors, size int) *model.Model {
	t.Helper()
	m, err := model.New(sectors, size)
	if err != nil {
		t.Fatal(err)
	}
	return m
}

func equal(a, b [][]byte) bool { return slices.EqualFunc(a, b, bytes.Equal) }

func TestExamples(t *testing.T) {
	m := made(t, 2, 1)
	if m.Write(0, []byte{5}) != nil || m.Write(0, []byte{6}) != nil || m.Waiting() != 2 {
		t.Error("Write")
	}
	want := [][][]byte{{{0}, {0}}, {{5}, {0}}, {{6}, {0}}}
	next := 0
	for n, l := range m.Fronts() {
		if n != next || !equal(l, want[n]) {
			t.Error(n, l)
		}
		next++
	}
	if next != 3 {
		t.Error(next)
	}
	if n, ok := m.Settle([][]byte{{9}, {9}}); n != 0 || ok || m.Waiting() != 2 {
		t.Error(n, ok)
	}
	if n, ok := m.Settle([][]byte{{6}, {0}}); n != 2 || !ok || m.Waiting() != 0 {
		t.Error(n, ok)
	}
}

func TestNew(t *testing.T) {
	for _, x := range []struct {
		sectors, size int
		err           error
	}{{1, 1, nil}, {1 << 20, 1024, nil}, {0, 1, api.ErrGeometry}, {1<<20 + 1, 1, api.ErrGeometry}, {1, 0, api.ErrGeometry}, {1, 1025, api.ErrGeometry}, {-1, -1, api.ErrGeometry}} {
		m, err := model.New(x.sectors, x.size)
		if err != x.err || (m == nil) != (err != nil) {
			t.Error(x, err)
		}
	}
	m := made(t, 3, 2)
	if !equal(m.Sectors(), [][]byte{{0, 0}, {0, 0}, {0, 0}}) || m.Waiting() != 0 {
		t.Error(m.Sectors())
	}
}

func TestErrors(t *testing.T) {
	m := made(t, 3, 2)
	for _, key := range []int{-1, 3, 1 << 62, -1 << 63} {
		if b, ok := m.Read(key); len(b) != 0 || ok {
			t.Error("Read", key)
		}
		if m.Write(key, nil) != api.ErrNumber || m.Trim(key) != api.ErrNumber {
			t.Error(key)
		}
	}
	for _, n := range []int{0, 1, 3} {
		if m.Write(2, make([]byte, n)) != api.ErrSize {
			t.Error(n)
		}
	}
	if m.Waiting() != 0 {
		t.Error("an error waits")
	}
}

func TestFlow(t *testing.T) {
	m := made(t, 3, 2)
	b := []byte{1, 2}
	m.Write(0, b)
	b[0] = 9
	m.Flush()
	m.Write(1, []byte{3, 4})
	m.Trim(0)
	if m.Waiting() != 2 || !equal(m.Sectors(), [][]byte{{0, 0}, {3, 4}, {0, 0}}) {
		t.Error(m.Sectors())
	}
	if x, ok := m.Read(1); !bytes.Equal(x, []byte{3, 4}) || !ok {
		t.Error(x)
	}
	// The least number: none of what waits is needed for what is there.
	if n, ok := m.Settle([][]byte{{1, 2}, {0, 0}, {0, 0}}); n != 0 || !ok || m.Waiting() != 0 {
		t.Error(n, ok)
	}
	if !equal(m.Sectors(), [][]byte{{1, 2}, {0, 0}, {0, 0}}) {
		t.Error(m.Sectors())
	}
	m.Write(0, []byte{5, 5})
	m.Write(0, []byte{1, 2})
	if n, ok := m.Settle([][]byte{{1, 2}, {0, 0}, {0, 0}}); n != 0 || !ok {
		t.Error("the least", n)
	}
	m.Write(0, []byte{5, 5})
	m.Write(2, []byte{7, 7})
	if n, ok := m.Settle([][]byte{{5, 5}, {0, 0}, {0, 0}}); n != 1 || !ok || m.Waiting() != 0 {
		t.Error(n, ok)
	}
	if x, _ := m.Read(2); x[0] != 0 {
		t.Error("what was not taken is gone", x)
	}
	for _, l := range [][][]byte{nil, {{5, 5}, {0, 0}}, {{5, 5}, {0, 0}, {0, 0}, {0, 0}}, {{5, 5}, {0}, {0, 0}}} {
		if _, ok := m.Settle(l); ok {
			t.Error(l)
		}
	}
}

// TestPlain: against lists of all that was ever there.
func TestPlain(t *testing.T) {
	r := rand.New(rand.NewSource(1))
	for range 200 {
		m := made(t, 4, 1)
		fronts := [][4]byte{{}}
		for range 30 {
			switch r.Intn(8) {
			case 0:
				m.Flush()
				fronts = fronts[len(fronts)-1:]
			case 1:
				l := fronts[r.Intn(len(fronts))]
				n, ok := m.Settle([][]byte{l[:1], l[1:2], l[2:3], l[3:]})
				if want := slices.Index(fronts, l); n != want || !ok {
					t.Fatal(n, want)
				}
				fronts = [][4]byte{l}
			default:
				key, x := r.Intn(4), byte(r.Intn(3))
				if x == 0 {
					m.Trim(key)
				} else {
					m.Write(key, []byte{x})
				}
				last := fronts[len(fronts)-1]
				last[key] = x
				fronts = append(fronts, last)
			}
			n := 0
			for i, l := range m.Fronts() {
				if i != n || !bytes.Equal(bytes.Join(l, nil), fronts[n][:]) {
					t.Fatal(i, l, fronts)
				}
				n++
			}
			if n != len(fronts) || m.Waiting() != n-1 || !bytes.Equal(bytes.Join(m.Sectors(), nil), fronts[n-1][:]) {
				t.Fatal(n)
			}
		}
	}
}

// TestFronts: it may be gone over again and again, and left early; what it tells is new memory.
func TestFronts(t *testing.T) {
	m := made(t, 2, 1)
	each := m.Fronts()
	m.Write(0, []byte{1})
	m.Write(1, []byte{2})
	for range 2 {
		n := 0
		for i, l := range each {
			n++
			l[0][0], l[1] = 77, nil
			if i == 1 {
				break
			}
		}
		if n != 2 {
			t.Error(n)
		}
	}
	var l [][][]byte
	for _, x := range each {
		l = append(l, x)
		x[0] = append(x[0][:0], x[0][0]+10)
	}
	if !equal(l[0], [][]byte{{10}, {0}}) || !equal(l[1], [][]byte{{11}, {0}}) || !equal(l[2], [][]byte{{11}, {2}}) {
		t.Error(l)
	}
	a, _ := m.Read(0)
	a[0] = 9
	m.Sectors()[1][0] = 9
	if !equal(m.Sectors(), [][]byte{{1}, {2}}) {
		t.Error("memory", m.Sectors())
	}
}

func TestAllows(t *testing.T) {
	m := made(t, 2, 1)
	m.Write(1, []byte{7})
	full, only, many, dead := api.ErrFull, api.ErrReadOnly, api.ErrMany, api.ErrDead
	for i, x := range []struct {
		s        disk.Step
		allowed  []disk.Answer
		unlawful []disk.Answer
	}{
		{disk.Step{Kind: disk.Read, A: 1}, []disk.Answer{{Data: []byte{7}}}, []disk.Answer{{}, {Data: []byte{0}}, {Data: []byte{7, 0}}, {Err: api.ErrNumber}, {Data: []byte{7}, Err: full}, {Err: full}, {Err: api.ErrPage}, {Err: dead}}},
		{disk.Step{Kind: disk.Read, A: 0}, []disk.Answer{{Data: []byte{0}}}, []disk.Answer{{Data: []byte{7}}, {}}},
		{disk.Step{Kind: disk.Read, A: 2}, []disk.Answer{{Err: api.ErrNumber}}, []disk.Answer{{}, {Data: []byte{0}}, {Err: api.ErrSize}, {Data: []byte{0}, Err: api.ErrNumber}}},
		{disk.Step{Kind: disk.Write, A: 0, Data: []byte{3}}, []disk.Answer{{}, {Err: full}, {Err: only}}, []disk.Answer{{Data: []byte{3}}, {Err: many}, {Err: api.ErrNumber}, {Err: api.ErrSize}, {Err: dead}, {Data: []byte{3}, Err: full}}},
		{disk.Step{Kind: disk.Write, A: 2}, []disk.Answer{{Err: api.ErrNumber}}, []disk.Answer{{}, {Err: api.ErrSize}, {Err: full}}},
		{disk.Step{Kind: disk.Write, A: 1}, []disk.Answer{{Err: api.ErrSize}}, []disk.Answer{{}, {Err: api.ErrNumber}, {Err: full}, {Err: only}}},
		{disk.Step{Kind: disk.Trim, A: 1, Data: []byte{1, 2}}, []disk.Answer{{}, {Err: full}, {Err: only}}, []disk.Answer{{Data: []byte{0}}, {Err: api.ErrSize}, {Err: many}}},
		{disk.Step{Kind: disk.Trim, A: -1}, []disk.Answer{{Err: api.ErrNumber}}, []disk.Answer{{}, {Err: full}}},
		{disk.Step{Kind: disk.Flush, A: 99}, []disk.Answer{{}, {Err: full}, {Err: only}}, []disk.Answer{{Err: many}, {Err: dead}, {Data: []byte{0}}}},
		{disk.Step{Kind: disk.Point}, []disk.Answer{{}, {Err: full}, {Err: only}, {Err: many}}, []disk.Answer{{Err: dead}, {Data: []byte{0}}, {Data: []byte{0}, Err: many}}},
		{disk.Step{Kind: disk.Remount, A: 1}, []disk.Answer{{}}, []disk.Answer{{Err: full}, {Err: only}, {Err: dead}, {Data: []byte{0}}}},
		{disk.Step{Kind: disk.Cut, A: -1}, []disk.Answer{{}}, []disk.Answer{{Err: full}, {Err: many}, {Data: []byte{0}}}},
		{disk.Step{Kind: 0}, nil, []disk.Answer{{}, {Err: api.ErrStep}, {Err: full}}},
		{disk.Step{Kind: 8}, nil, []disk.Answer{{}, {Err: api.ErrStep}, {Err: errors.New("no such step")}}},
	} {
		for _, a := range x.allowed {
			if !m.Allows(x.s, a) {
				t.Error(i, "allowed", a)
			}
		}
		for _, a := range x.unlawful {
			if m.Allows(x.s, a) {
				t.Error(i, "not allowed", a)
			}
		}
	}
	if m.Waiting() != 1 || !equal(m.Sectors(), [][]byte{{0}, {7}}) {
		t.Error("the model is changed")
	}
}

func TestBound(t *testing.T) {
	g := geometries()[0]
	if a, b := model.Bound(g); a != 40*10*16*4 || b != 8*a {
		t.Error(a, b)
	}
	g.Levels = 5
	if a, b := model.Bound(g); a != 40*10*16*7 || b != 8*a {
		t.Error(a, b)
	}
	noCode := g
	noCode.M = 3
	g.Buffer = 0
	for _, g := range []api.Geometry{{}, g, noCode} {
		if a, b := model.Bound(g); a != 0 || b != 0 {
			t.Error(a, b)
		}
	}
}
