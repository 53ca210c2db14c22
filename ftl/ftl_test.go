package ftl

import (
	"bytes"
	"slices"
	"testing"

	"shale/api"
	"shale/chip"
	"shale/page"
)

func example() api.Geometry {
	return api.Geometry{Blocks: 10, Pages: 16, Sector: 16, M: 10, T: 2, Levels: 2, Reserve: 0, Wear: 4, Buffer: 8}
}

// reserved keeps two blocks for bad ones.
func reserved() api.Geometry {
	g := example()
	g.Blocks, g.Reserve = 14, 2
	return g
}

func at(block, page int) api.Place { return api.Place{Block: block, Page: page} }

func chipOf(t *testing.T, g api.Geometry, marked []int, plan ...api.Fault) *chip.Chip {
	t.Helper()
	b, p, s, l, err := Shape(g)
	if err != nil {
		t.Fatal(err)
	}
	c, err := chip.New(b, p, s, l, marked, plan)
	if err != nil {
		t.Fatal(err)
	}
	return c
}

func formatted(t *testing.T, g api.Geometry, marked []int, plan ...api.Fault) (*FTL, *chip.Chip) {
	t.Helper()
	c := chipOf(t, g, marked, plan...)
	f, err := Format(c, g)
	if err != nil {
		t.Fatal(err)
	}
	return f, c
}

func mounted(t *testing.T, c *chip.Chip, g api.Geometry, points bool) *FTL {
	t.Helper()
	f, err := Mount(c, g, points)
	if err != nil {
		t.Fatal(err)
	}
	return f
}

func sector(g api.Geometry, n int) []byte { return bytes.Repeat([]byte{byte(n)}, g.Sector) }

// put writes a batch of sectors, each with what n makes of it.
func put(t *testing.T, f *FTL, n int, keys ...int) {
	t.Helper()
	var l []api.Entry
	for _, k := range keys {
		l = append(l, api.Entry{Key: k, Data: sector(f.g, n+k)})
	}
	if err := f.Write(l); err != nil {
		t.Fatal(n, keys, err)
	}
}

// holds looks whether the sectors are what n makes of them.
func holds(t *testing.T, f *FTL, n int, keys ...int) {
	t.Helper()
	for _, k := range keys {
		if b, ok, err := f.Read(k); !bytes.Equal(b, sector(f.g, n+k)) || !ok || err != nil {
			t.Fatal(k, b, ok, err)
		}
	}
}

// raw is a page as it stands on the chip.
func raw(t *testing.T, f *FTL, p api.Place) page.Read {
	t.Helper()
	x, err := f.codec.Open(p, f.c.Cells(p))
	if err != nil {
		t.Fatal(err)
	}
	return x
}

func TestExample(t *testing.T) {
	f, c := formatted(t, example(), nil)
	put(t, f, 1, 0)
	want := Stats{Live: 2, Free: 9, Seq: 2, Batch: 1, Floor: 1}
	if s := f.Stats(); s != want {
		t.Error(s)
	}
	m := mounted(t, c, example(), false)
	holds(t, m, 1, 0)
	if b, ok, err := m.Read(1); len(b) != 0 || ok || err != nil {
		t.Error(b, ok, err)
	}
	want.Sealed = 1
	if s := m.Stats(); s != want {
		t.Error(s)
	}
}

func TestShape(t *testing.T) {
	b, p, s, l, err := Shape(example())
	if b != 10 || p != 16 || s != 51 || l != 2 || err != nil {
		t.Error(b, p, s, l, err)
	}
	bad, noCode := example(), example()
	bad.Wear = 1
	noCode.M = 3
	for _, x := range []struct {
		g   api.Geometry
		err error
	}{{bad, api.ErrGeometry}, {noCode, api.ErrCode}} {
		c := chipOf(t, example(), nil)
		if b, p, s, l, err := Shape(x.g); b+p+s+l != 0 || err != x.err {
			t.Error("Shape", err)
		}
		if f, err := Format(c, x.g); f != nil || err != x.err {
			t.Error("Format", err)
		}
		if f, err := Mount(c, x.g, true); f != nil || err != x.err {
			t.Error("Mount", err)
		}
	}
}

func TestOtherShape(t *testing.T) {
	g := example()
	for i, x := range [][4]int{{11, 16, 51, 2}, {10, 17, 51, 2}, {10, 16, 52, 2}, {10, 16, 51, 1}} {
		c, err := chip.New(x[0], x[1], x[2], x[3], nil, nil)
		if err != nil {
			t.Fatal(err)
		}
		if f, err := Format(c, g); f != nil || err != api.ErrGeometry {
			t.Error(i, err)
		}
		if f, err := Mount(c, g, false); f != nil || err != api.ErrGeometry || c.Ops() != 0 {
			t.Error(i, err)
		}
	}
}

func TestFormat(t *testing.T) {
	f, c := formatted(t, example(), []int{3, 5})
	if s := f.Stats(); s != (Stats{Free: 8, Bad: 2}) || c.Ops() != 0 || f.Broken() || f.Sectors() != 33 || len(f.Slots()) != 0 {
		t.Error("of a blank chip", s)
	}
	put(t, f, 1, 0, 1, 2)
	used := 0
	for b := range 10 {
		if c.Used(at(b, 0)) {
			used++
		}
	}
	ops := c.Ops()
	f, err := Format(c, example())
	if err != nil || f.Stats().Free != 8 || f.Stats().Live != 0 || f.Stats().Seq != 0 || c.Ops() != ops+used {
		t.Error("of a used one", f.Stats(), err)
	}
	if _, ok, err := f.Read(0); ok || err != nil || c.Used(at(0, 0)) {
		t.Error("it is not empty")
	}
	if c.Used(at(3, 0)) || c.Worn(3) != 0 {
		t.Error("a marked one is touched")
	}
}

func TestFormatFails(t *testing.T) {
	g := reserved()
	f, c := formatted(t, g, nil)
	put(t, f, 1, 0)
	block := f.Slots()[0].Place.Block
	c.Plan([]api.Fault{{Op: c.Ops(), Kind: api.Fail}})
	f, err := Format(c, g)
	if err != nil {
		t.Fatal(err)
	}
	s := f.Stats()
	if s.Bad != 1 || s.Live != 1 || s.Free != 12 || s.Seq != 1 || s.Batch != 0 || s.Sealed != 0 {
		t.Error(s)
	}
	l := f.Slots()
	if len(l) != 1 || l[0].Key != f.Sectors()+block || l[0].Meta.Kind != api.Bad || l[0].Meta.Key != block || l[0].Meta.Batch != 0 || l[0].Place.Page != 1 {
		t.Error(l)
	}
	if x := raw(t, f, l[0].Place); x.Class != api.Whole || x.Meta != l[0].Meta {
		t.Error(x)
	}
	if m := mounted(t, c, g, false); m.Stats().Bad != 1 || m.Stats().Live != 1 {
		t.Error("mounted", m.Stats())
	}
	c.Plan([]api.Fault{{Op: c.Ops(), Kind: api.Cut, N: 1}})
	if f, err := Format(c, g); f != nil || err != api.ErrDead {
		t.Error("cut", err)
	}
}

// TestFormatNoRoom: where all erases fail the disk is there, and can only be read.
func TestFormatNoRoom(t *testing.T) {
	g := example()
	var all []int
	for b := 1; b < g.Blocks; b++ {
		all = append(all, b)
	}
	f, c := formatted(t, g, all)
	if err := f.Write([]api.Entry{{Key: 0, Trim: true}}); err != api.ErrFull {
		t.Error("one block is no room", err)
	}
	c.Program(at(0, 0), make([]byte, 51))
	c.Plan([]api.Fault{{Op: c.Ops(), Kind: api.Fail}})
	f, err := Format(c, g)
	if err != nil || f.Write(nil) != api.ErrReadOnly || f.Point() != api.ErrReadOnly || f.Collect(1) != api.ErrReadOnly || f.Broken() {
		t.Error(err)
	}
	if _, ok, err := f.Read(0); ok || err != nil {
		t.Error("it can be read", err)
	}
}

func TestRead(t *testing.T) {
	f, c := formatted(t, example(), nil)
	for _, key := range []int{-1, 33, 1 << 62, -1 << 63} {
		if b, ok, err := f.Read(key); len(b) != 0 || ok || err != api.ErrNumber {
			t.Error(key, err)
		}
	}
	put(t, f, 9, 0, 32)
	holds(t, f, 9, 0, 32)
	b, _, _ := f.Read(0)
	b[0]++
	holds(t, f, 9, 0)
	if err := f.Write([]api.Entry{{Key: 0, Trim: true, Data: []byte{1}}}); err != nil {
		t.Fatal(err)
	}
	ops := c.Ops()
	if b, ok, err := f.Read(0); len(b) != 0 || ok || err != nil || c.Ops() != ops {
		t.Error("a Trim", b, ok, err)
	}
	many := make([]int, 40)
	for i := range many {
		many[i] = 7 * i
	}
	c.Plan([]api.Fault{{Op: ops, Kind: api.Flip, Level: 0, Bits: many}, {Op: ops + 1, Kind: api.Flip, Level: 1, Bits: many[:2]}, {Op: ops + 2, Kind: api.Flip, Level: -1, Bits: many}, {Op: ops + 3, Kind: api.Flip, Level: -1, Bits: many}, {Op: ops + 4, Kind: api.Cut}})
	holds(t, f, 9, 32)
	if b, ok, err := f.Read(32); len(b) != 0 || ok || err != api.ErrPage {
		t.Error("unreadable", err)
	}
	if b, ok, err := f.Read(32); len(b) != 0 || ok || err != api.ErrDead || !f.Broken() {
		t.Error("cut", err)
	}
	c.Power()
	_, _, err := f.Read(-1)
	if err != api.ErrDead || f.Write(nil) != api.ErrDead || f.Point() != api.ErrDead || f.Collect(0) != api.ErrDead {
		t.Error("broken", err)
	}
}

func TestWriteErrors(t *testing.T) {
	g := example()
	f, c := formatted(t, g, nil)
	good := func(k int) api.Entry { return api.Entry{Key: k, Data: sector(g, 1)} }
	var nine []api.Entry
	for k := range 9 {
		nine = append(nine, good(k))
	}
	for i, x := range []struct {
		l   []api.Entry
		err error
	}{
		{nil, nil}, {nine, api.ErrMany}, {[]api.Entry{good(1), {Key: -1}, good(1)}, api.ErrMany}, {[]api.Entry{good(1), {Key: 33}, {Key: 2}}, api.ErrNumber},
		{[]api.Entry{good(1), {Key: 2, Data: make([]byte, 15)}, {Key: 33}}, api.ErrSize}, {[]api.Entry{{Key: 2}}, api.ErrSize}, {[]api.Entry{{Key: -1, Trim: true}}, api.ErrNumber},
	} {
		if err := f.Write(x.l); err != x.err {
			t.Error(i, err)
		}
	}
	if c.Ops() != 0 || f.Stats() != (Stats{Free: 10}) {
		t.Error("an error changed something", f.Stats())
	}
	if err := f.Write(nine[:8]); err != nil {
		t.Error(err)
	}
}

// TestBatch: how a batch lies on the chip.
func TestBatch(t *testing.T) {
	f, c := formatted(t, example(), nil)
	put(t, f, 1, 4, 2)
	if err := f.Write([]api.Entry{{Key: 9, Trim: true}}); err != nil {
		t.Fatal(err)
	}
	block := f.Slots()[0].Place.Block
	for i, want := range []api.Meta{
		{Kind: api.Head, Key: block, Stamp: 1}, {Kind: api.Data, Key: 4, Seq: 1, Stamp: 2, Batch: 1}, {Kind: api.Data, Key: 2, Seq: 2, Stamp: 3, Batch: 1}, {Kind: api.Commit, Key: 1, Seq: 3, Stamp: 4, Batch: 1},
		{Kind: api.Trim, Key: 9, Seq: 4, Stamp: 5, Batch: 2, Floor: 1}, {Kind: api.Commit, Key: 2, Seq: 5, Stamp: 6, Batch: 2, Floor: 1},
	} {
		if x := raw(t, f, at(block, i)); x.Class != api.Whole || x.Meta != want {
			t.Error(i, x.Meta, want)
		}
	}
	if s := f.Stats(); s.Live != 4 || s.Seq != 5 || s.Batch != 2 || s.Floor != 2 {
		t.Error(s)
	}
	for _, points := range []bool{true, false} {
		if m := mounted(t, c, example(), points); !slices.Equal(m.Slots(), f.Slots()) || m.Stats().Live != 4 || m.Stats().Floor != 2 || m.Stats().Batch != 2 || m.Stats().Seq != 5 {
			t.Error("mounted", m.Slots())
		}
	}
	f.Slots()[0].Key = 99
	if f.Slots()[0].Key != 2 {
		t.Error("memory")
	}
}

// TestCut: wherever the power goes, the batch is whole or not there; and what was there is.
func TestCut(t *testing.T) {
	g := example()
	for done := -1; done < 60; done += 20 {
		for op := range 5 {
			f, c := formatted(t, g, nil)
			put(t, f, 1, 0, 1, 2)
			c.Plan([]api.Fault{{Op: c.Ops() + op, Kind: api.Cut, N: done}})
			err := f.Write([]api.Entry{{Key: 0, Data: sector(g, 50)}, {Key: 1, Trim: true}, {Key: 3, Data: sector(g, 53)}})
			if dead := op < 4; dead != (err == api.ErrDead) || dead != f.Broken() {
				t.Fatal(op, err)
			}
			c.Power()
			c.Plan(nil)
			for range 2 {
				m := mounted(t, c, g, op%2 == 0)
				holds(t, m, 1, 2)
				_, there, _ := m.Read(3)
				if whole := op == 4 || op == 3 && done >= 51; there != whole {
					t.Fatal(op, done, there)
				}
				if there {
					holds(t, m, 50, 0, 3)
				} else {
					holds(t, m, 1, 0, 1)
				}
				if _, ok, err := m.Read(1); ok == there || err != nil {
					t.Fatal(op, done, ok)
				}
			}
		}
	}
}

func TestDead(t *testing.T) {
	c := chipOf(t, example(), nil, api.Fault{Op: 7, Kind: api.Cut})
	if f, err := Mount(c, example(), false); f != nil || err != api.ErrDead {
		t.Error("Mount", err)
	}
	if f, err := Mount(c, example(), false); f != nil || err != api.ErrDead {
		t.Error("the power is off", err)
	}
}
