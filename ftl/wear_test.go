package ftl

import (
	"testing"

	"shale/api"
)

// TestWear: where wear is too far apart a Write empties the least worn block that is worn less than all free ones.
func TestWear(t *testing.T) {
	g := example()
	c := chipOf(t, g, nil)
	f, err := Format(c, g)
	if err != nil {
		t.Fatal(err)
	}
	put(t, f, 1, 0, 1, 2, 3, 4, 5)
	put(t, f, 1, 6, 7, 8, 9, 10, 11)
	put(t, f, 1, 12)
	cold := f.Slots()[0].Place.Block
	wear := func(n int) {
		for _, b := range []int{2, 3, 4, 5, 6, 7, 8, 9} {
			for range n {
				c.Erase(b)
			}
		}
	}
	if _, open := f.log.Open(); cold != 0 || !open {
		t.Fatal(cold, open)
	}
	wear(4)
	if m := mounted(t, c, g, false); m.Stats().Gap != 4 {
		t.Error(m.Stats())
	} else {
		put(t, m, 20, 20)
		if m.Stats().Moved != 0 || c.Worn(0) != 0 {
			t.Error("too early", m.Stats())
		}
	}
	wear(1)
	m := mounted(t, c, g, false)
	if m.Stats().Gap != 5 {
		t.Error(m.Stats())
	}
	// Of the two that are not worn the one with less live pages is first; then the other one.
	one, two := m.table.Live(1), m.table.Live(0)
	put(t, m, 30, 20)
	if s := m.Stats(); s.Moved != one || s.Erased != 1 || c.Worn(1) != 1 || one == 0 || two <= one {
		t.Error(s, one, two)
	}
	put(t, m, 30, 21)
	if s := m.Stats(); s.Moved != one+two || s.Erased != 2 || c.Worn(0) != 1 {
		t.Error(s)
	}
	holds(t, m, 1, 0, 1, 2, 3, 4)
	moved := m.Stats().Moved
	put(t, m, 30, 22)
	if m.Stats().Moved != moved {
		t.Error("a free one is worn as little", m.Stats())
	}
}

// TestCollect: the victim with the least live pages is emptied, as long as that gives room.
func TestCollect(t *testing.T) {
	g := example()
	f, c := formatted(t, g, nil)
	for n := range 12 {
		put(t, f, n, 0, 1, 2, 3)
	}
	s := f.Stats()
	if s.Free != 6 || s.Sealed != 3 || s.Live != 5 {
		t.Fatal(s)
	}
	for n, want := range map[int]int{0: 0, -7: 0, -1 << 63: 0} {
		if err := f.Collect(n); err != nil || f.Stats().Erased != want {
			t.Error(n, err)
		}
	}
	if err := f.Collect(2); err != nil || f.Stats().Erased != 2 || f.Stats().Free != 8 || f.Stats().Moved != 0 {
		t.Error(f.Stats())
	}
	if err := f.Collect(1 << 62); err != nil || f.Stats().Erased != 3 || f.Stats().Live != 5 {
		t.Error(f.Stats())
	}
	holds(t, f, 11, 0, 1, 2, 3)
	c.Plan([]api.Fault{{Op: c.Ops() + 1, Kind: api.Cut}})
	put := f.Write([]api.Entry{{Key: 0, Trim: true}})
	if put != api.ErrDead || f.Collect(1) != api.ErrDead {
		t.Error("cut", put)
	}
}

// TestCollectFull: a block all of whose pages are live gives no room.
func TestCollectFull(t *testing.T) {
	g := example()
	g.Buffer = 29
	f, _ := formatted(t, g, nil)
	put(t, f, 1, 0, 1, 2, 3, 4, 5, 6, 7, 8, 9, 10, 11, 12, 13, 14)
	put(t, f, 1, 15)
	if s := f.Stats(); s.Sealed != 1 || f.table.Live(0) != 15 {
		t.Fatal(s)
	}
	if err := f.Collect(5); err != nil || f.Stats().Moved != 0 {
		t.Error(err, f.Stats())
	}
	put(t, f, 2, 3)
	if err := f.Collect(5); err != nil || f.Stats().Moved == 0 || f.Stats().Erased == 0 {
		t.Error(err, f.Stats())
	}
}

// TestFailed: a block that failed is emptied ahead of others, and bad from then on.
func TestFailed(t *testing.T) {
	g := reserved()
	f, c := formatted(t, g, nil)
	put(t, f, 1, 0, 1)
	c.Plan([]api.Fault{{Op: c.Ops() + 1, Kind: api.Fail, N: 5}})
	put(t, f, 1, 2, 3, 4)
	failed := f.Slots()[0].Place.Block
	if s := f.Stats(); s.Bad != 0 || s.Sealed != 1 || s.Free != 12 || s.Seq != 7 {
		t.Error(s)
	}
	if err := f.Collect(1); err != nil {
		t.Fatal(err)
	}
	s := f.Stats()
	if s.Bad != 1 || s.Erased != 0 || s.Moved != 3 || s.Sealed != 0 || s.Live != 7 || s.Seq != 8 {
		t.Error(s)
	}
	l := f.Slots()
	if x := l[len(l)-1]; x.Key != f.Sectors()+failed || x.Meta.Kind != api.Bad || x.Meta.Seq != 8 || !c.Used(at(failed, 0)) || c.Worn(failed) != 0 {
		t.Error(x)
	}
	holds(t, f, 1, 0, 1, 2, 3, 4)
	for _, points := range []bool{true, false} {
		m := mounted(t, c, g, points)
		holds(t, m, 1, 0, 1, 2, 3, 4)
		if m.Stats().Bad != 1 {
			t.Error(m.Stats())
		}
	}
}

// TestEraseFails: a block whose erase fails is bad from then on.
func TestEraseFails(t *testing.T) {
	g := reserved()
	f, c := formatted(t, g, nil)
	for n := range 5 {
		put(t, f, n, 0, 1, 2, 3)
	}
	c.Plan([]api.Fault{{Op: c.Ops(), Kind: api.Fail}})
	if err := f.Collect(1); err != nil {
		t.Fatal(err)
	}
	if s := f.Stats(); s.Bad != 1 || s.Erased != 0 || s.Moved != 0 || s.Live != 6 {
		t.Error(s)
	}
	holds(t, mounted(t, c, g, false), 4, 0, 1, 2, 3)
}

// TestWeak: pages that were hard to read are moved by the next batch, four at most, by their places.
func TestWeak(t *testing.T) {
	g := example()
	f, c := formatted(t, g, nil)
	put(t, f, 1, 0, 1, 2, 3, 4, 5, 6)
	for k, bits := range [][]int{{1, 2}, {3, 4}, {5}, {6, 7}, {8, 9}, {10, 11}} {
		c.Plan([]api.Fault{{Op: c.Ops(), Kind: api.Flip, Level: 0, Bits: bits}})
		holds(t, f, 1, k)
	}
	many := make([]int, 30)
	for i := range many {
		many[i] = 9 * i
	}
	c.Plan([]api.Fault{{Op: c.Ops(), Kind: api.Flip, Level: 0, Bits: many}})
	holds(t, f, 1, 6)
	put(t, f, 2, 3)
	if s := f.Stats(); s.Moved != 4 {
		t.Error(s)
	}
	for k, moved := range []bool{true, true, false, true, true, false, false} {
		x, _ := f.table.Get(k)
		if k != 3 && (x.Place.Page > 8) != moved {
			t.Error(k, x)
		}
	}
	put(t, f, 3, 4)
	if s := f.Stats(); s.Moved != 6 {
		t.Error(s)
	}
	put(t, f, 4, 5)
	if s := f.Stats(); s.Moved != 6 {
		t.Error(s)
	}
	holds(t, mounted(t, c, g, false), 1, 0, 1, 2, 6)
}

// TestStuck: a block with a live page that cannot be read is let be, as long as that page is live.
func TestStuck(t *testing.T) {
	g := example()
	f, c := formatted(t, g, nil)
	put(t, f, 1, 0, 1, 2, 3, 4, 5, 6)
	put(t, f, 1, 1, 2, 3, 4, 5, 6)
	put(t, f, 1, 7)
	if f.table.Live(0) != 7 || f.Stats().Sealed != 1 {
		t.Fatal(f.Stats())
	}
	many := make([]int, 30)
	for i := range many {
		many[i] = 9 * i
	}
	c.Plan([]api.Fault{{Op: c.Ops(), Kind: api.Flip, Level: -1, Bits: many}, {Op: c.Ops() + 1, Kind: api.Flip, Level: -1, Bits: many}})
	if err := f.Collect(3); err != nil || f.Stats().Erased != 0 || f.Stats().Moved != 0 || c.Worn(0) != 0 {
		t.Error("the first one cannot be read", err, f.Stats())
	}
	holds(t, f, 1, 0, 1, 2)
	if len(f.candidates()) != 0 || f.Stats().Sealed != 1 {
		t.Error("it is a victim")
	}
	put(t, f, 9, 0)
	if err := f.Collect(1); err != nil || f.Stats().Erased != 1 || f.Stats().Moved == 0 {
		t.Error("it is none any more", err, f.Stats())
	}
	holds(t, f, 1, 1, 2, 3, 4, 5, 6, 7)
	holds(t, f, 9, 0)
}

// TestFull: with too many blocks bad there is no room, and then the disk can only be read.
func TestFull(t *testing.T) {
	g := example()
	f, c := formatted(t, g, []int{1, 2, 3, 4, 5, 6})
	var err error
	n := 0
	for ; err == nil && n < 60; n++ {
		err = f.Write([]api.Entry{{Key: n % 33, Data: sector(g, n)}})
	}
	if err != api.ErrFull {
		t.Fatal(n, err)
	}
	s := f.Stats()
	if f.Write([]api.Entry{{Key: 0, Trim: true}}) != api.ErrReadOnly || f.Write(nil) != api.ErrReadOnly || f.Point() != api.ErrReadOnly || f.Collect(1) != api.ErrReadOnly || f.Stats() != s {
		t.Error("it can be written")
	}
	if _, ok, err := f.Read(n - 1); ok || err != nil {
		t.Error("what was refused is there")
	}
	holds(t, f, 0, 5, 6)
	m := mounted(t, c, g, false)
	for k := range n - 1 {
		if b, ok, err := m.Read(k); !ok || err != nil || b[0] != byte(k) {
			t.Error(k, err)
		}
	}
}
