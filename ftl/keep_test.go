package ftl

import (
	"bytes"
	"math/rand"
	"slices"
	"testing"

	"shale/api"
	"shale/checkpoint"
	"shale/chip"
	"shale/table"
)

// lays writes pages to a chip by hand, block by block, each with a Head ahead.
func lays(t *testing.T, f *FTL, c *chip.Chip, blocks map[int][]api.Meta) {
	t.Helper()
	for b, l := range blocks {
		for i, m := range append([]api.Meta{{Kind: api.Head, Key: b, Stamp: 1 + 100*b}}, l...) {
			x, err := f.codec.Lay(at(b, i), m, sector(f.g, m.Key))
			if err != nil {
				t.Fatal(err)
			}
			if err := c.Program(at(b, i), x); err != nil {
				t.Fatal(err)
			}
		}
	}
}

func byHand(t *testing.T, g api.Geometry, blocks map[int][]api.Meta) *chip.Chip {
	t.Helper()
	f, _ := formatted(t, g, nil)
	c := chipOf(t, g, nil)
	lays(t, f, c, blocks)
	return c
}

func data(key, seq, stamp, batch int) api.Meta {
	return api.Meta{Kind: api.Data, Key: key, Seq: seq, Stamp: stamp, Batch: batch}
}

// TestMountDirty: what is dirty is erased, or emptied; nothing stays open.
func TestMountDirty(t *testing.T) {
	g := example()
	c := byHand(t, g, map[int][]api.Meta{
		1: {data(1, 1, 102, 0), data(2, 2, 103, 9)}, // emptied
		2: {data(3, 3, 203, 9)},                     // erased: an orphan alone
		3: {data(4, 4, 303, 0)},                     // sealed
		4: {data(4, 3, 403, 0)},                     // erased: nothing wins
	})
	c.Program(at(6, 0), bytes.Repeat([]byte{255}, 51)) // reads as erased, but is used
	c.Program(at(7, 0), make([]byte, 51))              // torn
	f := mounted(t, c, g, false)
	want := Stats{Live: 2, Free: 8, Sealed: 2, Gap: 1, Moved: 1, Erased: 5, Seq: 4, Batch: 9}
	if s := f.Stats(); s != want {
		t.Error(s)
	}
	for b, worn := range []int{0, 1, 1, 0, 1, 0, 1, 1} {
		if c.Worn(b) != worn {
			t.Error(b, c.Worn(b))
		}
	}
	l := f.Slots()
	if len(l) != 2 || l[0].Meta.Kind != api.Data || l[0].Meta.Key != 1 || l[0].Meta.Seq != 1 || l[0].Meta.Batch != 0 || l[0].Meta.Stamp != 405 || l[1].Place != at(3, 1) {
		t.Error(l)
	}
	if _, open := f.log.Open(); open || c.Broken() != 0 {
		t.Error("open")
	}
	put(t, f, 1, 1, 2)
	if s := f.Stats(); s.Batch != 10 || s.Floor != 10 || s.Seq != 7 {
		t.Error(s)
	}
	holds(t, mounted(t, c, g, true), 1, 1, 2)
}

// TestMountFirst: of the same version what was laid first is there; torn blocks are erased ahead of others.
func TestMountFirst(t *testing.T) {
	g := example()
	c := byHand(t, g, map[int][]api.Meta{0: {data(1, 5, 30, 0)}, 1: {data(1, 5, 20, 0)}, 2: {data(7, 5, 20, 3)}})
	c.Program(at(3, 0), make([]byte, 51))
	from := c.Ops() + 10*16*2 - 3*2 // each page at two levels, but those that are whole at once
	for op := from - 20; op < from+20; op++ {
		d := c.Clone()
		d.Plan([]api.Fault{{Op: op, Kind: api.Cut, N: 99}})
		_, err := Mount(d, g, false)
		if err == nil {
			break
		}
		if !d.Used(at(2, 0)) && d.Used(at(3, 0)) || !d.Used(at(0, 0)) && d.Used(at(2, 0)) && d.Used(at(3, 0)) {
			t.Error("the order", op)
		}
	}
	f := mounted(t, c, g, false)
	if l := f.Slots(); len(l) != 1 || l[0].Place != at(1, 1) || f.Stats().Free != 9 {
		t.Error(l, f.Stats())
	}
}

// TestMountFails: a block whose erase fails is bad, and that is laid.
func TestMountFails(t *testing.T) {
	g := reserved()
	c := byHand(t, g, map[int][]api.Meta{2: {data(3, 3, 203, 9)}, 3: {data(4, 4, 303, 0), data(5, 5, 304, 9)}})
	probe := c.Clone()
	mounted(t, probe, g, false)
	n := probe.Ops() - c.Ops()
	// Ahead of the end: the erase of 2, a page that is read, a Head, that page, the erase of 3. With the first one
	// failed: that erase, a Head, a Bad, the page that is read, that page, the erase of 3.
	c.Plan([]api.Fault{{Op: c.Ops() + n - 5, Kind: api.Fail}, {Op: c.Ops() + n, Kind: api.Fail}})
	f := mounted(t, c, g, false)
	if s := f.Stats(); s.Bad != 2 || s.Live != 3 || s.Erased != 0 || s.Moved != 1 || s.Sealed != 1 || s.Seq != 7 {
		t.Error(s)
	}
	if l := f.Slots(); len(l) != 3 || l[1].Meta.Key != 2 || l[2].Meta.Key != 3 || l[1].Meta.Kind != api.Bad || l[1].Key != f.Sectors()+2 {
		t.Error(l)
	}
	put(t, f, 1, 0, 1)
	m := mounted(t, c, g, true)
	holds(t, m, 1, 0, 1)
	if m.Stats().Bad != 2 || c.Worn(2) != 0 || c.Worn(3) != 0 {
		t.Error(m.Stats())
	}
}

// TestMountFull: where there is no room to empty what is dirty the disk is there, and can only be read.
func TestMountFull(t *testing.T) {
	g := example()
	blocks := map[int][]api.Meta{}
	for b := range g.Blocks {
		blocks[b] = []api.Meta{data(b, b+1, 100*b+2, 0), data(20, 50+b, 100*b+3, 9)}
	}
	f := mounted(t, byHand(t, g, blocks), g, false)
	if f.Write(nil) != api.ErrReadOnly || f.Point() != api.ErrReadOnly || f.Collect(3) != api.ErrReadOnly || f.Broken() {
		t.Error("it can be written")
	}
	holds(t, f, 0, 0, 1, 9)
	if s := f.Stats(); s.Live != 10 || s.Free != 0 || s.Sealed != 10 {
		t.Error(s)
	}
}

// TestNumbersEnd: a disk whose Seq, or stamps, are used up can only be read.
func TestNumbersEnd(t *testing.T) {
	g := example()
	for i, m := range []api.Meta{data(1, api.MaxNum-1, 5, 0), data(1, 1, api.MaxNum-500, 0), data(1, 1, 5, api.MaxNum)} {
		f := mounted(t, byHand(t, g, map[int][]api.Meta{0: {m, data(1, 7, 9, 0)}}), g, false)
		key := f.Slots()[0].Key
		for n, want := range []error{api.ErrReadOnly, api.ErrReadOnly} {
			if err := f.Write([]api.Entry{{Key: 2, Data: sector(g, 3)}}); err != want {
				t.Error(i, n, err)
			}
		}
		if _, ok, err := f.Read(2); ok || err != nil || f.Point() != api.ErrReadOnly {
			t.Error(i, "nothing of it is there", err)
		}
		if _, ok, err := f.Read(key); !ok || err != nil {
			t.Error(i, err)
		}
	}
}

func big() api.Geometry {
	return api.Geometry{Blocks: 10, Pages: 16, Sector: 200, M: 11, T: 2, Levels: 2, Reserve: 1, Wear: 100, Buffer: 8}
}

func fill(t *testing.T, f *FTL, n int) {
	t.Helper()
	for k := 0; k+4 <= f.Sectors(); k += 4 {
		put(t, f, n, k, k+1, k+2, k+3)
	}
}

// readPoint is the point whose pieces the FTL has.
func readPoint(t *testing.T, f *FTL) (int, checkpoint.Point) {
	t.Helper()
	var l [][]byte
	for _, s := range f.pieces() {
		x := raw(t, f, s.Place)
		if x.Meta.Kind != api.Check || x.Meta.Key != len(l) || x.Meta.Batch != 0 || x.Meta != s.Meta {
			t.Error(x.Meta)
		}
		l = append(l, x.Data)
	}
	n, b, err := checkpoint.Join(l)
	if err != nil {
		t.Fatal(err)
	}
	p, err := checkpoint.Open(b)
	if err != nil {
		t.Fatal(err)
	}
	return n, p
}

func TestPoint(t *testing.T) {
	g := big()
	f, c := formatted(t, g, nil)
	fill(t, f, 1)
	seq := f.Stats().Seq
	var blocks []int
	for _, b := range f.sealed() {
		blocks = append(blocks, b.Number)
	}
	live := f.table.All()
	if err := f.Point(); err != nil {
		t.Fatal(err)
	}
	n, p := readPoint(t, f)
	s := f.Stats()
	if n != seq+1 || s.Seq != seq+1 || s.Pieces == 0 || s.Live != len(live)+s.Pieces || f.pieces()[0].Meta.Seq != n {
		t.Error(n, seq, s)
	}
	for i, b := range p.Blocks {
		if b.Number != blocks[i] || raw(t, f, at(b.Number, 0)).Meta.Stamp != b.Stamp {
			t.Error(b)
		}
	}
	told := 0
	for _, x := range live {
		if slices.Contains(blocks, x.Place.Block) {
			told++
			if !slices.Contains(p.Slots, x) {
				t.Error("not told", x)
			}
		}
	}
	if len(p.Slots) != told || len(p.Blocks) != len(blocks) || len(blocks) == 0 {
		t.Error(len(p.Slots), told)
	}
	put(t, f, 40, 0, 9)
	for range 2 {
		a, b := mounted(t, c.Clone(), g, true), mounted(t, c.Clone(), g, false)
		holds(t, a, 40, 0, 9)
		holds(t, b, 1, 1, 2, 3)
		if !slices.Equal(a.Slots(), b.Slots()) || !slices.Equal(a.Slots(), f.Slots()) || a.Stats().Pieces != s.Pieces {
			t.Error("not the same")
		}
		if err := f.Point(); err != nil || f.Stats().Pieces != s.Pieces {
			t.Error("again", err)
		}
	}
}

// TestPointTells: what the point says stands for what cannot be read; but not of a block that was filled anew.
func TestPointTells(t *testing.T) {
	g := big()
	f, c := formatted(t, g, nil)
	fill(t, f, 1)
	if err := f.Point(); err != nil {
		t.Fatal(err)
	}
	s, _ := f.table.Get(2)
	storm := func(c *chip.Chip) {
		// The page is the op-th that is read: those ahead are whole, and read at one level.
		var l []api.Fault
		for op := range 400 {
			l = append(l, api.Fault{Op: c.Ops() + op, Kind: api.Flip, Level: -1})
		}
		op := 0
		for b := range s.Place.Block + 1 {
			for i := range g.Pages {
				if at(b, i) == s.Place {
					for k := range 40 {
						l[op].Bits, l[op+1].Bits = append(l[op].Bits, 7*k), append(l[op+1].Bits, 7*k)
					}
				}
				op++
				if raw(t, f, at(b, i)).Class != api.Whole {
					op++
				}
			}
		}
		c.Plan(l)
	}
	a, b := c.Clone(), c.Clone()
	storm(a)
	storm(b)
	holds(t, mounted(t, a, g, true), 1, 2)
	if _, ok, err := mounted(t, b, g, false).Read(2); ok || err != nil {
		t.Error("without points", ok, err)
	}
	// Now its block is filled anew.
	f.empty(s.Place.Block)
	for range 6 {
		fill(t, f, 60)
	}
	if m := mounted(t, c, g, true); !slices.Equal(m.Slots(), f.Slots()) {
		t.Error("filled anew")
	}
}

func TestPointMany(t *testing.T) {
	f, _ := formatted(t, example(), nil)
	if err := f.Point(); err != nil || f.Stats().Pieces != 7 || f.Stats().Seq != 1 {
		t.Error("of nothing", err, f.Stats())
	}
	fill(t, f, 1)
	s := f.Stats()
	if err := f.Point(); err != api.ErrMany || f.Stats() != s {
		t.Error(err, f.Stats())
	}
}

// TestPointTwins: a point tells of pages that were moved away, for a mount without it may find them first.
func TestPointTwins(t *testing.T) {
	g := big()
	f, c := formatted(t, g, nil)
	fill(t, f, 1)
	s, _ := f.table.Get(2)
	c.Plan([]api.Fault{{Op: c.Ops(), Kind: api.Flip, Level: 0, Bits: []int{1, 2}}})
	holds(t, f, 1, 2)
	put(t, f, 1, 5) // moves the weak page
	if now, _ := f.table.Get(2); now.Place == s.Place || now.Meta.Seq != s.Meta.Seq || now.Meta.Batch != 0 || f.Stats().Moved != 1 {
		t.Fatal("not moved")
	}
	moved, _ := f.table.Get(2)
	if err := f.Point(); err != nil {
		t.Fatal(err)
	}
	f = mounted(t, c, g, false)
	if now, _ := f.table.Get(2); now.Place != s.Place {
		t.Fatal("the first one is not found", now)
	}
	if err := f.empty(moved.Place.Block); err != nil {
		t.Fatal(err)
	}
	holds(t, mounted(t, c.Clone(), g, false), 1, 2)
	holds(t, mounted(t, c.Clone(), g, true), 1, 2)
}

// TestPointGarbage: pieces that are no point, or name places that there are not, are none.
func TestPointGarbage(t *testing.T) {
	g := big()
	f, _ := formatted(t, g, nil)
	m := data(1, 9, 9, 0)
	for i, p := range []checkpoint.Point{
		{Blocks: []checkpoint.Block{{Number: 0, Stamp: 1}, {Number: 10}}},
		{Blocks: []checkpoint.Block{{Number: 0, Stamp: 1}}, Slots: f.table.All()[:0:0]},
		{Blocks: []checkpoint.Block{{Number: 0, Stamp: 2}}},
	} {
		if i == 1 {
			p.Slots = append(p.Slots, slotAt(at(0, 1), m), slotAt(at(0, 16), m))
		}
		b, err := checkpoint.Bytes(p)
		if err != nil {
			t.Fatal(err)
		}
		l, _ := checkpoint.Pieces(b, g.Sector, 9)
		c := byHand(t, g, map[int][]api.Meta{0: {data(1, 1, 2, 0), data(2, 2, 3, 0)}})
		head, _ := f.codec.Lay(at(1, 0), api.Meta{Kind: api.Head, Key: 1, Stamp: 50}, f.zeros())
		piece, _ := f.codec.Lay(at(1, 1), api.Meta{Kind: api.Check, Seq: 9, Stamp: 51}, l[0])
		c.Program(at(1, 0), head)
		c.Program(at(1, 1), piece)
		x := mounted(t, c, g, true)
		if s := x.Slots(); len(s) != 2 || s[0].Meta.Seq != 1 || x.Stats().Pieces != 1 {
			t.Error(i, s)
		}
	}
}

// TestGarbage: whatever is on a chip, a mount ends, and so does all that follows.
func TestGarbage(t *testing.T) {
	r := rand.New(rand.NewSource(1))
	g := example()
	f, _ := formatted(t, g, nil)
	for range 150 {
		c := chipOf(t, g, nil)
		for b := range g.Blocks {
			for i := range r.Intn(g.Pages + 1) {
				m := api.Meta{Kind: 1 + r.Intn(6), Key: r.Intn(40), Seq: r.Intn(9), Stamp: r.Intn(9), Batch: r.Intn(3), Floor: r.Intn(3)}
				if r.Intn(5) == 0 {
					m.Key, m.Seq, m.Batch = r.Intn(api.MaxNum+1), r.Intn(api.MaxNum+1), r.Intn(api.MaxNum+1)
				}
				if i == 0 && r.Intn(5) > 0 {
					m = api.Meta{Kind: api.Head, Key: b}
				}
				x, _ := f.codec.Lay(at(b, i), m, sector(g, r.Intn(256)))
				if r.Intn(9) == 0 {
					r.Read(x)
				}
				c.Program(at(b, i), x)
			}
		}
		f, err := Mount(c, g, r.Intn(2) == 0)
		if err != nil {
			t.Fatal(err)
		}
		for n := range 30 {
			f.Write([]api.Entry{{Key: r.Intn(33), Data: sector(g, n)}, {Key: r.Intn(33), Trim: true}})
			f.Read(r.Intn(33))
			f.Point()
			f.Collect(1)
		}
		if c.Broken() != 0 {
			t.Fatal("a rule is broken")
		}
	}
}

func slotAt(p api.Place, m api.Meta) table.Slot { return table.Slot{Key: m.Key, Place: p, Meta: m} }

// TestMountOwes: where no block is free yet the Bad of one whose erase fails is laid as soon as one is.
func TestMountOwes(t *testing.T) {
	g := reserved()
	blocks := map[int][]api.Meta{}
	for b := range g.Blocks {
		blocks[b] = []api.Meta{data(b, b+1, 100*b+2, 0)}
		if b < 3 {
			blocks[b] = []api.Meta{data(b, b+1, 100*b+2, 9)}
		}
	}
	c := byHand(t, g, blocks)
	c.Plan([]api.Fault{{Op: c.Ops() + reads(c, g), Kind: api.Fail}})
	f := mounted(t, c, g, false)
	l := f.Slots()
	last := l[len(l)-1]
	if s := f.Stats(); s.Bad != 1 || s.Free != 1 || s.Erased != 2 || s.Sealed != 12 || last.Meta.Kind != api.Bad || last.Meta.Key != 0 || last.Place != at(1, 1) {
		t.Error(s, last)
	}
	if m := mounted(t, c, g, false); m.Stats().Bad != 1 || c.Used(at(2, 0)) {
		t.Error(m.Stats())
	}
}

// reads is how many reads a mount begins with.
func reads(c *chip.Chip, g api.Geometry) int {
	n := 0
	for b := range g.Blocks {
		for i := range g.Pages {
			n += g.Levels
			if c.Used(at(b, i)) {
				n -= g.Levels - 1
			}
		}
	}
	return n
}

// TestPointHeads: a point tells the stamps of all Heads, also of blocks that failed as soon as they were opened.
func TestPointHeads(t *testing.T) {
	g := big()
	g.Blocks, g.Reserve = 14, 4
	f, c := formatted(t, g, nil)
	put(t, f, 1, 0)
	f.log.Seal()
	// Fails: a Head that is all laid; a page behind a Head; a page in the middle.
	c.Plan([]api.Fault{{Op: c.Ops(), Kind: api.Fail, N: 1000}, {Op: c.Ops() + 2, Kind: api.Fail}, {Op: c.Ops() + 5, Kind: api.Fail}})
	put(t, f, 1, 1, 2, 3)
	f.log.Seal()
	if err := f.Point(); err != nil {
		t.Fatal(err)
	}
	_, p := readPoint(t, f)
	if len(p.Blocks) != 5 || len(f.log.Failed()) != 3 {
		t.Fatal(p.Blocks, f.log.Failed())
	}
	for _, b := range p.Blocks {
		if x := raw(t, f, at(b.Number, 0)); x.Class != api.Whole || x.Meta.Stamp != b.Stamp {
			t.Error(b, x.Meta)
		}
	}
}
