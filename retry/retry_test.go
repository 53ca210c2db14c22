package retry

import (
	"bytes"
	"math/rand"
	"slices"
	"testing"

	"shale/api"
	"shale/chip"
	"shale/drive"
	"shale/page"
)

func at(block, page int) api.Place { return api.Place{Block: block, Page: page} }

type setup struct {
	c *chip.Chip
	d *drive.Drive
	p *page.Codec
	r *Reader
}

func made(t *testing.T, levels int) setup {
	t.Helper()
	g := api.Geometry{Blocks: 8, Pages: 16, Sector: 16, M: 10, T: 2, Levels: 3, Wear: 4, Buffer: 8}
	p, err := page.New(g)
	if err != nil {
		t.Fatal(err)
	}
	c, err := chip.New(8, 16, p.Size(), 3, []int{7}, nil)
	if err != nil {
		t.Fatal(err)
	}
	d := drive.New(c)
	for b := range 8 {
		d.Fresh(b)
	}
	return setup{c, d, p, New(d, p, levels)}
}

var record = api.Meta{Kind: 2, Key: 5, Seq: 6, Stamp: 7}

func (s setup) lay(t *testing.T, block int, data []byte) api.Place {
	t.Helper()
	p := at(block, s.d.Next(block))
	b, err := s.p.Lay(p, record, data)
	if err != nil {
		t.Fatal(err)
	}
	if _, err := s.d.Append(block, b); err != nil {
		t.Fatal(err)
	}
	return p
}

// flips turns so many bits at each level of the next reads, one read a level.
func (s setup) flips(r *rand.Rand, n ...int) {
	var l []api.Fault
	for i, k := range n {
		l = append(l, api.Fault{Op: s.c.Ops() + i, Kind: api.Flip, Level: i, Bits: r.Perm(8*s.p.Size() - 4)[:k]})
	}
	s.c.Plan(l)
}

func TestLevels(t *testing.T) {
	r := rand.New(rand.NewSource(1))
	s := made(t, 3)
	data := bytes.Repeat([]byte{0x5A}, 16)
	p := s.lay(t, 0, data)
	for _, x := range []struct {
		flips []int
		want  Result
		weak0 bool // by more than 0 mended, or by its level
		weak1 bool
	}{
		{[]int{0, 0, 0}, Result{Class: api.Whole, Level: 0, Fixed: 0, Tries: 1}, false, false},
		{[]int{1, 0, 0}, Result{Class: api.Whole, Level: 0, Fixed: 1, Tries: 1}, true, false},
		{[]int{2, 0, 0}, Result{Class: api.Whole, Level: 0, Fixed: 2, Tries: 1}, true, true},
		{[]int{60, 1, 0}, Result{Class: api.Whole, Level: 1, Fixed: 1, Tries: 2}, true, true},
		{[]int{60, 60, 0}, Result{Class: api.Whole, Level: 2, Fixed: 0, Tries: 3}, true, true},
		{[]int{60, 60, 60}, Result{Class: api.Torn, Tries: 3}, false, false},
	} {
		s.flips(r, x.flips...)
		got, err := s.r.Read(p)
		if x.want.Class == api.Whole {
			x.want.Meta = record
			if !bytes.Equal(got.Data, data) {
				t.Error(x.flips, "data")
			}
		} else if len(got.Data) != 0 {
			t.Error(x.flips, "data beside torn")
		}
		got.Data = nil
		if err != nil || got.Class != x.want.Class || got.Level != x.want.Level || got.Fixed != x.want.Fixed || got.Tries != x.want.Tries || got.Meta != x.want.Meta {
			t.Error(x.flips, got, err)
		}
		if slices.Contains(s.r.Weak(0), p) != x.weak0 || slices.Contains(s.r.Weak(1), p) != x.weak1 || slices.Contains(s.r.Weak(9), p) != (got.Level > 0) {
			t.Error(x.flips, s.r.Weak(0), s.r.Weak(1))
		}
	}
	if s.r.Reads() != 6 {
		t.Error("Reads", s.r.Reads())
	}
}

func TestErased(t *testing.T) {
	r := rand.New(rand.NewSource(2))
	s := made(t, 3)
	if x, err := s.r.Read(at(1, 0)); x.Class != api.Erased || x.Level != 0 || x.Tries != 3 || x.Data != nil || err != nil {
		t.Error(x, err)
	}
	s.flips(r, 60, 2, 0)
	if x, err := s.r.Read(at(1, 0)); x.Class != api.Erased || x.Level != 1 || x.Tries != 3 || x.Fixed != 0 || err != nil {
		t.Error(x, err)
	}
	s.flips(r, 60, 60, 60)
	if x, err := s.r.Read(at(1, 0)); x.Class != api.Torn || x.Level != 0 || x.Tries != 3 || err != nil {
		t.Error(x, err)
	}
}

func TestCount(t *testing.T) {
	for levels, want := range map[int]int{-1 << 63: 1, -1: 1, 0: 1, 1: 1, 2: 2, 3: 3, 4: 3, 1 << 62: 3} {
		s := made(t, levels)
		if x, err := s.r.Read(at(0, 0)); x.Tries != want || s.c.Ops() != want || err != nil {
			t.Error(levels, x)
		}
	}
}

func TestErrors(t *testing.T) {
	s := made(t, 3)
	p := s.lay(t, 0, make([]byte, 16))
	s.c.Plan([]api.Fault{{Op: s.c.Ops(), Kind: api.Flip, Level: -1, Bits: []int{3, 4}}, {Op: s.c.Ops() + 1, Kind: api.Flip, Level: -1, Bits: []int{1, 2, 3, 4, 5, 6, 7}}, {Op: s.c.Ops() + 2, Kind: api.Cut}})
	s.r.Read(p)
	for _, x := range []struct {
		p   api.Place
		err error
	}{{at(7, 0), api.ErrBad}, {at(8, 0), api.ErrOrder}, {at(0, 16), api.ErrOrder}, {at(-1, 0), api.ErrOrder}, {p, api.ErrDead}, {p, api.ErrDead}} {
		got, err := s.r.Read(x.p)
		if err != x.err || got.Class != 0 || got.Tries != 0 || got.Data != nil || got.Level != 0 {
			t.Error(x, got, err)
		}
		if !slices.Equal(s.r.Weak(1), []api.Place{p}) {
			t.Error("an error changed what was read last")
		}
	}
	if s.r.Reads() != 7 {
		t.Error("Reads", s.r.Reads())
	}
}

func TestWeak(t *testing.T) {
	s := made(t, 1)
	var all []api.Place
	for _, b := range []int{3, 1, 3, 2, 1} {
		all = append(all, s.lay(t, b, make([]byte, 16)))
	}
	for _, p := range all {
		s.c.Plan([]api.Fault{{Op: s.c.Ops(), Kind: api.Flip, Level: -1, Bits: []int{9}}})
		s.r.Read(p)
	}
	want := []api.Place{at(1, 0), at(1, 1), at(2, 0), at(3, 0), at(3, 1)}
	l := s.r.Weak(0)
	if !slices.Equal(l, want) || len(s.r.Weak(1)) != 0 || len(s.r.Weak(-5)) != 5 {
		t.Error(l)
	}
	l[0] = at(9, 9)
	s.r.Forget(1)
	s.r.Forget(6)
	if !slices.Equal(s.r.Weak(0), want[2:]) {
		t.Error("Forget", s.r.Weak(0))
	}
	s.r.Read(at(3, 0))
	s.d.Erase(2)
	s.r.Read(at(2, 0))
	if !slices.Equal(s.r.Weak(0), want[4:]) {
		t.Error("read again", s.r.Weak(0))
	}
}
