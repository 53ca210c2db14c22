package table

import (
	"math/rand"
	"slices"
	"testing"

	"shale/api"
)

func at(block, page int) api.Place { return api.Place{Block: block, Page: page} }

func made(t *testing.T, blocks, pages int) *Table {
	t.Helper()
	x, err := New(blocks, pages)
	if err != nil {
		t.Fatal(err)
	}
	return x
}

func (t *Table) must(test *testing.T, key int, p api.Place, m api.Meta) {
	test.Helper()
	if _, _, err := t.Set(key, p, m); err != nil {
		test.Fatal(err)
	}
}

func TestExamples(t *testing.T) {
	x := made(t, 4, 8)
	m := api.Meta{Kind: 2, Key: 5}
	if p, ok, err := x.Set(5, at(0, 1), m); p != at(0, 0) || ok || err != nil {
		t.Error(p, ok, err)
	}
	if p, ok, err := x.Set(5, at(1, 1), m); p != at(0, 1) || !ok || err != nil {
		t.Error(p, ok, err)
	}
	if _, ok := x.At(at(0, 1)); ok || x.Live(0) != 0 || x.Live(1) != 1 {
		t.Error("the old place")
	}
	if p, ok, err := x.Set(6, at(1, 1), m); p != at(0, 0) || ok || err != api.ErrOrder {
		t.Error(err)
	}
	if p, ok, err := x.Set(6, at(4, 0), m); p != at(0, 0) || ok || err != api.ErrNumber {
		t.Error(err)
	}
}

func TestErrors(t *testing.T) {
	for _, x := range [][2]int{{0, 1}, {65, 1}, {1, 0}, {1, 65}, {-1, -1}, {1 << 62, 1}} {
		if y, err := New(x[0], x[1]); y != nil || err != api.ErrGeometry {
			t.Error(x)
		}
	}
	x := made(t, 64, 64)
	x.must(t, 0, at(0, 0), api.Meta{})
	x.must(t, api.MaxNum, at(63, 63), api.Meta{})
	for _, y := range []struct {
		key int
		p   api.Place
		err error
	}{{-1, at(0, 0), api.ErrNumber}, {api.MaxNum + 1, at(1, 1), api.ErrNumber}, {3, at(64, 0), api.ErrNumber}, {3, at(0, 64), api.ErrNumber}, {3, at(-1, 0), api.ErrNumber}, {3, at(0, -1), api.ErrNumber}, {3, at(63, 63), api.ErrOrder}} {
		if _, _, err := x.Set(y.key, y.p, api.Meta{}); err != y.err {
			t.Error(y, err)
		}
	}
	if x.Len() != 2 || x.Live(64) != 0 || x.Live(-1) != 0 || len(x.Slots(64)) != 0 || len(x.Slots(-1)) != 0 || x.Drop(3) || x.Drop(-1) {
		t.Error("nothing there")
	}
	if s, ok := x.Get(3); ok || s != (Slot{}) {
		t.Error("Get")
	}
	for _, p := range []api.Place{at(1, 1), at(64, 0), at(0, -1), at(-1, 0), at(0, 64)} {
		if k, ok := x.At(p); ok || k != 0 {
			t.Error("At", p)
		}
	}
	if k, ok := x.At(at(63, 63)); k != api.MaxNum || !ok {
		t.Error("At")
	}
}

func TestPlain(t *testing.T) {
	r := rand.New(rand.NewSource(1))
	x := made(t, 5, 6)
	plain := map[int]Slot{}
	for range 4000 {
		key, p, m := r.Intn(20), at(r.Intn(5), r.Intn(6)), api.Meta{Seq: r.Intn(9)}
		old, had := plain[key]
		if r.Intn(4) == 0 {
			if x.Drop(key) != had {
				t.Fatal("Drop")
			}
			delete(plain, key)
		} else {
			taken := false
			for k, s := range plain {
				taken = taken || k != key && s.Place == p
			}
			q, ok, err := x.Set(key, p, m)
			if taken != (err == api.ErrOrder) || !taken && (q != old.Place || ok != had) {
				t.Fatal("Set", err)
			}
			if !taken {
				plain[key] = Slot{key, p, m}
			}
		}
		live := 0
		for b := range 5 {
			l := x.Slots(b)
			live += x.Live(b)
			if len(l) != x.Live(b) || !slices.IsSortedFunc(l, func(s, t Slot) int { return s.Place.Page - t.Place.Page }) {
				t.Fatal("Slots")
			}
			for _, s := range l {
				if plain[s.Key] != s || s.Place.Block != b {
					t.Fatal("Slots")
				}
			}
		}
		if live != x.Len() || live != len(plain) {
			t.Fatal("Live")
		}
		last := -1
		for i, s := range x.All() {
			y, ok := x.Get(s.Key)
			k, ok2 := x.At(s.Place)
			if s.Key <= last || plain[s.Key] != s || y != s || !ok || k != s.Key || !ok2 || i >= live {
				t.Fatal("All")
			}
			last = s.Key
		}
	}
}

func TestSame(t *testing.T) {
	a, b := made(t, 3, 3), made(t, 4, 5)
	if !a.Same(b) {
		t.Error("of none")
	}
	m := api.Meta{Kind: 2, Key: 1, Seq: 5, Stamp: 6, Batch: 7, Floor: 8}
	a.must(t, 1, at(1, 1), m)
	if a.Same(b) || b.Same(a) {
		t.Error("one less")
	}
	for _, x := range []struct {
		key  int
		p    api.Place
		m    api.Meta
		same bool
	}{
		{1, at(1, 1), m, true}, {1, at(1, 1), api.Meta{Kind: 2, Seq: 5}, true}, {1, at(1, 2), m, false}, {1, at(0, 1), m, false},
		{2, at(1, 1), m, false}, {1, at(1, 1), api.Meta{Kind: 3, Seq: 5}, false}, {1, at(1, 1), api.Meta{Kind: 2, Seq: 6}, false},
	} {
		b := made(t, 4, 5)
		b.must(t, x.key, x.p, x.m)
		if a.Same(b) != x.same || b.Same(a) != x.same {
			t.Error(x)
		}
	}
}

func TestAgain(t *testing.T) {
	x := made(t, 2, 2)
	x.must(t, 1, at(1, 1), api.Meta{Seq: 1})
	if p, ok, err := x.Set(1, at(1, 1), api.Meta{Seq: 2}); p != at(1, 1) || !ok || err != nil {
		t.Error(p, ok, err)
	}
	if s, _ := x.Get(1); s.Meta.Seq != 2 || x.Live(1) != 1 {
		t.Error(s)
	}
}

func TestKeys(t *testing.T) {
	x := made(t, 2, 4)
	each := x.Keys()
	for i, k := range []int{9, 3, 7} {
		x.must(t, k, at(1, i), api.Meta{})
	}
	for range 2 {
		var l []int
		for i, s := range each {
			l = append(l, s.Key)
			if i == 1 {
				break
			}
		}
		if !slices.Equal(l, []int{3, 7}) {
			t.Error(l)
		}
	}
	n := 0
	for i, s := range each {
		x.Drop(s.Key)
		if i != n {
			t.Error(i)
		}
		n++
	}
	if n != 3 || x.Len() != 0 {
		t.Error(n)
	}
	x.must(t, 4, at(0, 0), api.Meta{})
	x.All()[0].Key = 7
	x.Slots(0)[0].Key = 7
	if x.All()[0].Key != 4 {
		t.Error("memory")
	}
}
