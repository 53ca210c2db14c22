package blocklog

import (
	"bytes"
	"slices"
	"testing"

	"shale/api"
	"shale/chip"
	"shale/drive"
	"shale/page"
	"shale/pool"
)

func at(block, page int) api.Place { return api.Place{Block: block, Page: page} }

type setup struct {
	c *chip.Chip
	d *drive.Drive
	p *page.Codec
	f *pool.Pool
	l *Log
}

// made has a chip of 8 blocks of 3 pages, and these free.
func made(t *testing.T, stamp int, free []int, plan ...api.Fault) setup {
	t.Helper()
	p, err := page.New(api.Geometry{Blocks: 8, Pages: 16, Sector: 16, M: 10, T: 2, Levels: 1, Wear: 4, Buffer: 8})
	if err != nil {
		t.Fatal(err)
	}
	c, err := chip.New(8, 3, p.Size(), 1, []int{7}, plan)
	if err != nil {
		t.Fatal(err)
	}
	d, f := drive.New(c), pool.New()
	for i, b := range free {
		d.Fresh(b)
		f.Add(b, i)
	}
	return setup{c, d, p, f, New(d, p, f, 3, stamp)}
}

func (s setup) read(t *testing.T, p api.Place) page.Read {
	t.Helper()
	x, err := s.p.Open(p, s.c.Cells(p))
	if err != nil {
		t.Fatal(err)
	}
	return x
}

func sector(n int) []byte { return bytes.Repeat([]byte{byte(n)}, 16) }

func data(key int) api.Meta { return api.Meta{Kind: api.Data, Key: key, Seq: key} }

func (s setup) append(t *testing.T, key int, want api.Place) {
	t.Helper()
	m := data(key)
	m.Batch, m.Stamp, m.Floor = 3, 1<<40, -5
	got, err := s.l.Append(m, sector(key))
	if got != want || err != nil {
		t.Fatal(key, got, err)
	}
	x := s.read(t, got)
	if x.Class != api.Whole || !bytes.Equal(x.Data, sector(key)) || x.Meta.Key != key || x.Meta.Seq != key || x.Meta.Batch != 3 || x.Meta.Kind != api.Data || x.Meta.Stamp != s.l.Stamp() {
		t.Fatal(key, x)
	}
}

func TestExamples(t *testing.T) {
	s := made(t, 0, []int{0, 1})
	if _, ok := s.l.Open(); ok || s.l.Room() != 0 || s.l.Stamp() != 0 {
		t.Error("at first")
	}
	s.append(t, 5, at(0, 1))
	if b, ok := s.l.Open(); b != 0 || !ok || s.l.Room() != 1 {
		t.Error("Open, Room")
	}
	s.append(t, 6, at(0, 2))
	if b, ok := s.l.Open(); b != 0 || !ok || s.l.Room() != 0 || len(s.l.Sealed()) != 0 {
		t.Error("it is sealed too early")
	}
	s.append(t, 7, at(1, 1))
	if s.l.Stamp() != 5 || !slices.Equal(s.l.Sealed(), []int{0}) {
		t.Error("Stamp, Sealed")
	}
	s.append(t, 8, at(1, 2))
	if p, err := s.l.Append(data(9), sector(9)); p != at(0, 0) || err != api.ErrFull || s.l.Stamp() != 6 {
		t.Error(p, err)
	}
	if b, ok := s.l.Open(); b != 0 || ok || !slices.Equal(s.l.Sealed(), []int{0, 1}) || len(s.l.Failed()) != 0 {
		t.Error("sealed by want of pages")
	}
	for b, stamp := range []int{1, 4} {
		x := s.read(t, at(b, 0))
		if x.Class != api.Whole || x.Meta != (api.Meta{Kind: api.Head, Key: b, Stamp: stamp}) || !bytes.Equal(x.Data, sector(0)) {
			t.Error("the Head", x)
		}
	}
}

func TestErrors(t *testing.T) {
	s := made(t, -7, []int{0})
	for _, n := range []int{0, 15, 17} {
		if _, err := s.l.Append(api.Meta{}, make([]byte, n)); err != api.ErrSize {
			t.Error("size", n)
		}
	}
	for _, m := range []api.Meta{{}, {Kind: 7}, {Kind: 2, Key: -1}, {Kind: 2, Seq: api.MaxNum + 1}, {Kind: 2, Batch: -1}} {
		if p, err := s.l.Append(m, sector(1)); p != at(0, 0) || err != api.ErrRecord {
			t.Error(m, err)
		}
	}
	if s.l.Stamp() != 0 || s.f.Len() != 1 || s.c.Ops() != 0 {
		t.Error("an error changed something")
	}
	s.append(t, 1, at(0, 1))
	if s.l.Stamp() != 2 {
		t.Error("a stamp below 0 is as 0")
	}
	late := made(t, api.MaxNum-1000, []int{0, 1})
	late.append(t, 1, at(0, 1))
	if _, err := late.l.Append(data(1), nil); err != api.ErrRecord || late.l.Stamp() != api.MaxNum-998 {
		t.Error("too late", err)
	}
}

func TestFails(t *testing.T) {
	// The head of block 0 fails; of block 1 its second page; the head of block 3.
	s := made(t, 10, []int{0, 1, 2, 3, 4}, api.Fault{Op: 0, Kind: api.Fail}, api.Fault{Op: 2, Kind: api.Fail, N: 9}, api.Fault{Op: 6, Kind: api.Fail})
	s.append(t, 1, at(2, 1))
	if s.l.Stamp() != 15 || !slices.Equal(s.l.Failed(), []int{0, 1}) || !slices.Equal(s.l.Sealed(), []int{0, 1}) {
		t.Error(s.l.Stamp(), s.l.Failed(), s.l.Sealed())
	}
	s.append(t, 2, at(2, 2))
	s.append(t, 3, at(4, 1))
	if s.l.Stamp() != 19 || !slices.Equal(s.l.Failed(), []int{0, 1, 3}) || !slices.Equal(s.l.Sealed(), []int{0, 1, 2, 3}) || s.c.Broken() != 0 {
		t.Error(s.l.Stamp(), s.l.Failed(), s.l.Sealed())
	}
	s.l.Failed()[0] = 9
	s.l.Sealed()[0] = 9
	_ = append(s.l.Failed()[:1], 9)
	s.l.Forget(1)
	s.l.Forget(6)
	if !slices.Equal(s.l.Failed(), []int{0, 3}) || !slices.Equal(s.l.Sealed(), []int{0, 2, 3}) {
		t.Error("Forget", s.l.Failed(), s.l.Sealed())
	}
}

// TestStray: blocks that should not have been in the pool.
func TestStray(t *testing.T) {
	s := made(t, 0, []int{4, 5, 6})
	s.f.Add(7, 0)
	s.d.Close(4)
	s.d.Retire(5)
	s.append(t, 1, at(6, 1))
	if s.l.Stamp() != 5 || !slices.Equal(s.l.Sealed(), []int{4, 7, 5}) || len(s.l.Failed()) != 0 {
		t.Error(s.l.Stamp(), s.l.Sealed(), s.l.Failed())
	}
	s.d.Close(6)
	if _, err := s.l.Append(data(2), sector(2)); err != api.ErrFull || !slices.Equal(s.l.Sealed(), []int{4, 7, 5, 6}) || s.c.Broken() != 0 {
		t.Error(err, s.l.Sealed())
	}
}

func TestDead(t *testing.T) {
	s := made(t, 0, []int{0, 1}, api.Fault{Op: 1, Kind: api.Cut, N: 3})
	if p, err := s.l.Append(data(1), sector(1)); p != at(0, 0) || err != api.ErrDead {
		t.Error(p, err)
	}
	if _, ok := s.l.Open(); ok || !slices.Equal(s.l.Sealed(), []int{0}) || len(s.l.Failed()) != 0 || s.l.Stamp() != 2 {
		t.Error("it is sealed")
	}
	s.c.Power()
	s.append(t, 2, at(1, 1))
	if s.l.Stamp() != 4 {
		t.Error("stamps that were tried are used")
	}
}

func TestSeal(t *testing.T) {
	s := made(t, 0, []int{0, 1})
	s.l.Seal()
	if len(s.l.Sealed()) != 0 {
		t.Error("none was open")
	}
	s.append(t, 1, at(0, 1))
	s.l.Seal()
	s.l.Seal()
	if _, ok := s.l.Open(); ok || s.l.Room() != 0 || !slices.Equal(s.l.Sealed(), []int{0}) {
		t.Error("Seal")
	}
	s.append(t, 2, at(1, 1))
}

func TestFloor(t *testing.T) {
	s := made(t, 0, []int{0, 1, 2})
	for i, x := range []struct{ n, want int }{{5, 5}, {3, 5}, {-1, 5}, {api.MaxNum + 1, 5}, {api.MaxNum, api.MaxNum}} {
		s.l.Floor(x.n)
		p, err := s.l.Append(data(1), sector(1))
		if err != nil || s.read(t, p).Meta.Floor != x.want {
			t.Error(x, err)
		}
		if i == 0 && s.read(t, at(0, 0)).Meta.Floor != 5 {
			t.Error("of the Head")
		}
	}
}

// TestRising: stamps rise block by block, page by page.
func TestRising(t *testing.T) {
	s := made(t, 0, []int{0, 1, 2, 3, 4, 5, 6}, api.Fault{Op: 3, Kind: api.Fail}, api.Fault{Op: 7, Kind: api.Fail})
	last := 0
	for {
		p, err := s.l.Append(data(1), sector(1))
		if err == api.ErrFull {
			break
		}
		for i := range p.Page + 1 {
			x := s.read(t, at(p.Block, i))
			if x.Class != api.Whole || i == p.Page && x.Meta.Stamp <= last || i == 0 && x.Meta.Kind != api.Head {
				t.Fatal(p, i, x)
			}
		}
		last = s.read(t, p).Meta.Stamp
	}
	if last < 10 || s.c.Broken() != 0 {
		t.Error(last)
	}
}
