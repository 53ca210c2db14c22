package scan

import (
	"math/rand"
	"reflect"
	"slices"
	"sort"
	"testing"

	"shale/api"
	"shale/meta"
	"shale/table"
)

func at(block, page int) api.Place { return api.Place{Block: block, Page: page} }

func whole(block, page int, m api.Meta) Page { return Page{at(block, page), api.Whole, m} }

func head(block int) Page { return whole(block, 0, api.Meta{Kind: api.Head, Key: block}) }

func of(t *testing.T, blocks, pages, sectors int, skip []int, l ...Page) Result {
	t.Helper()
	r, err := Of(blocks, pages, sectors, skip, l)
	if err != nil {
		t.Fatal(err)
	}
	return r
}

func same(t *testing.T, got, want Result) {
	t.Helper()
	if len(got.Slots) != len(want.Slots) || len(got.Slots) > 0 && !reflect.DeepEqual(got.Slots, want.Slots) {
		t.Error("Slots", got.Slots, want.Slots)
	}
	if got.Seq != want.Seq || got.Stamp != want.Stamp || got.Batch != want.Batch || got.Floor != want.Floor {
		t.Error("numbers", got, want)
	}
	if !slices.Equal(got.Free, want.Free) || !slices.Equal(got.Dirty, want.Dirty) || !slices.Equal(got.Bad, want.Bad) || !slices.Equal(got.Orphans, want.Orphans) {
		t.Error("lists", got, want)
	}
}

func slot(key int, p Page) table.Slot { return table.Slot{Key: key, Place: p.Place, Meta: p.Meta} }

func TestExamples(t *testing.T) {
	a := whole(0, 1, api.Meta{Kind: api.Data, Key: 2, Seq: 5, Stamp: 2})
	b := whole(0, 2, api.Meta{Kind: api.Data, Key: 2, Seq: 6, Stamp: 3, Batch: 1})
	same(t, of(t, 2, 3, 4, nil, head(0), a, b), Result{Slots: []table.Slot{slot(2, a)}, Seq: 6, Stamp: 3, Batch: 1, Dirty: []int{0}, Orphans: []api.Place{at(0, 2)}, Free: []int{1}})
	c := whole(1, 1, api.Meta{Kind: api.Commit, Key: 1, Batch: 1})
	same(t, of(t, 2, 3, 4, nil, head(0), a, b, head(1), c), Result{Slots: []table.Slot{slot(2, b), slot(9, c)}, Seq: 6, Stamp: 3, Batch: 1, Floor: 1})
}

func TestErrors(t *testing.T) {
	p := func(b, n, class int) Page { return Page{Place: at(b, n), Class: class} }
	for _, x := range []struct {
		blocks, pages, sectors int
		skip                   []int
		l                      []Page
		err                    error
	}{
		{1, 1, 1, nil, nil, nil}, {64, 64, api.MaxNum / 2, []int{-1, 64, 3, 3}, []Page{p(63, 63, api.Torn)}, nil},
		{0, 1, 1, nil, []Page{p(9, 9, 9)}, api.ErrGeometry}, {65, 1, 1, nil, nil, api.ErrGeometry}, {1, 0, 1, nil, nil, api.ErrGeometry}, {1, 65, 1, nil, nil, api.ErrGeometry},
		{1, 1, 0, nil, nil, api.ErrGeometry}, {1, 1, api.MaxNum/2 + 1, nil, nil, api.ErrGeometry},
		{2, 2, 1, nil, []Page{p(0, 1, 1), p(0, 0, 1)}, api.ErrOrder}, {2, 2, 1, nil, []Page{p(0, 1, 1), p(0, 1, 1)}, api.ErrOrder}, {2, 2, 1, nil, []Page{p(1, 0, 1), p(0, 1, 1)}, api.ErrOrder},
		{2, 2, 1, nil, []Page{p(2, 0, 1)}, api.ErrOrder}, {2, 2, 1, nil, []Page{p(0, 2, 1)}, api.ErrOrder}, {2, 2, 1, nil, []Page{p(-1, 0, 1)}, api.ErrOrder}, {2, 2, 1, nil, []Page{p(0, -1, 1)}, api.ErrOrder},
		{2, 2, 1, []int{1}, []Page{p(1, 0, 2)}, api.ErrOrder}, {2, 2, 1, nil, []Page{p(1, 0, 0)}, api.ErrOrder}, {2, 2, 1, nil, []Page{p(1, 0, 4)}, api.ErrOrder}, {2, 2, 1, nil, []Page{p(0, 1, 1), p(1, 0, 1), p(1, 1, 2)}, nil},
	} {
		r, err := Of(x.blocks, x.pages, x.sectors, x.skip, x.l)
		if err != x.err || err != nil && !reflect.DeepEqual(r, Result{}) {
			t.Error(x, err)
		}
	}
	same(t, of(t, 3, 2, 1, []int{1, -4, 99}), Result{Free: []int{0, 2}})
}

// TestBad: a bad block is let be, but what it says of bad ones holds.
func TestBad(t *testing.T) {
	bad := func(b, n, key int) Page { return whole(b, n, api.Meta{Kind: api.Bad, Key: key, Seq: 1}) }
	a, b := bad(0, 1, 1), bad(1, 1, 2)
	same(t, of(t, 4, 2, 4, nil, head(0), a, head(1), b), Result{Bad: []int{1, 2}, Seq: 1, Slots: []table.Slot{slot(5, a)}, Free: []int{3}})
	// Of a batch, out of bounds, or where no Head is: none.
	c := bad(0, 1, 1)
	c.Meta.Batch = 1
	same(t, of(t, 3, 3, 4, nil, head(0), c, bad(0, 2, 3), bad(1, 1, 0)), Result{Seq: 1, Batch: 1, Dirty: []int{0, 1}, Free: []int{2}, Orphans: []api.Place{at(0, 1)}})
	// Of itself: it does not count.
	same(t, of(t, 1, 2, 4, nil, head(0), bad(0, 1, 0)), Result{Seq: 1, Bad: []int{0}})
}

func TestDirty(t *testing.T) {
	d := whole(0, 1, api.Meta{Kind: api.Data, Key: 1, Seq: 1})
	torn := Page{Place: at(0, 2), Class: api.Torn}
	same(t, of(t, 2, 3, 2, []int{1}, head(0), d, torn), Result{Slots: []table.Slot{slot(1, d)}, Seq: 1, Dirty: []int{0}})
	same(t, of(t, 2, 3, 2, []int{1}, head(0), d), Result{Slots: []table.Slot{slot(1, d)}, Seq: 1})
	same(t, of(t, 2, 3, 2, []int{1}, d), Result{Seq: 1, Dirty: []int{0}})
	same(t, of(t, 2, 3, 2, []int{1}, head(0)), Result{Dirty: []int{0}})
	same(t, of(t, 2, 3, 2, nil, whole(0, 0, api.Meta{Kind: api.Head, Key: 1}), d), Result{Seq: 1, Dirty: []int{0}, Free: []int{1}})
	far := d
	far.Meta.Key = 2
	same(t, of(t, 2, 3, 2, nil, head(0), far), Result{Seq: 1, Dirty: []int{0}, Free: []int{1}})
}

func TestKeys(t *testing.T) {
	l := []Page{head(0)}
	var want []table.Slot
	for i, x := range []struct{ kind, key, want int }{{api.Data, 0, 0}, {api.Trim, 3, 3}, {api.Data, 4, -1}, {api.Data, -1, -1}, {api.Check, 0, 4 + 2}, {api.Check, 9, 4 + 2 + 9}, {api.Check, 10, -1}, {api.Commit, 7, 4 + 2 + 10}, {api.Head, 2, -1}} {
		p := whole(0, i+1, api.Meta{Kind: x.kind, Key: x.key, Seq: 5})
		l = append(l, p)
		if x.want >= 0 {
			want = append(want, slot(x.want, p))
		}
	}
	same(t, of(t, 2, 10, 4, []int{1}, l...), Result{Slots: want, Seq: 5, Batch: 7, Floor: 7})
}

// TestPlain: against the document's words, page by page.
func TestPlain(t *testing.T) {
	r := rand.New(rand.NewSource(1))
	for range 3000 {
		blocks, pages, sectors := 1+r.Intn(5), 1+r.Intn(5), 1+r.Intn(3)
		var skip []int
		if r.Intn(3) == 0 {
			skip = append(skip, r.Intn(blocks))
		}
		var l []Page
		for b := range blocks {
			for n := range pages {
				if slices.Contains(skip, b) || r.Intn(6) == 0 {
					continue
				}
				p := Page{at(b, n), 1 + r.Intn(9)/7, api.Meta{Kind: 1 + r.Intn(6), Key: r.Intn(6), Seq: r.Intn(5), Stamp: r.Intn(4), Batch: r.Intn(4) * r.Intn(2), Floor: r.Intn(3) * r.Intn(2)}}
				if r.Intn(8) == 0 {
					p.Class = api.Torn
				}
				if n == 0 && r.Intn(5) > 0 {
					p.Meta.Kind, p.Meta.Key, p.Meta.Batch, p.Class = api.Head, b, 0, api.Whole
				}
				if p.Class != api.Whole {
					p.Meta = api.Meta{}
				}
				l = append(l, p)
			}
		}
		was := slices.Clone(l)
		got := of(t, blocks, pages, sectors, skip, l...)
		same(t, got, plain(blocks, pages, sectors, skip, l))
		if t.Failed() {
			t.Fatal(l)
		}
		if !slices.Equal(was, l) {
			t.Fatal("what was handed in is changed")
		}
	}
}

func plain(blocks, pages, sectors int, skip []int, l []Page) Result {
	var r Result
	headed := func(b int) bool { return slices.Contains(l, whole(b, 0, api.Meta{Kind: 1, Key: b})) || isHead(l, b) }
	for b := range blocks {
		if slices.ContainsFunc(l, func(p Page) bool {
			return p.Class == api.Whole && p.Meta.Kind == api.Bad && p.Meta.Key == b && p.Meta.Batch == 0 && headed(p.Place.Block)
		}) {
			r.Bad = append(r.Bad, b)
		}
	}
	counts := func(b int) bool {
		return headed(b) && !slices.Contains(skip, b) && !slices.Contains(r.Bad, b)
	}
	for _, p := range l {
		if p.Class != api.Whole {
			continue
		}
		r.Seq, r.Stamp, r.Batch = max(r.Seq, p.Meta.Seq), max(r.Stamp, p.Meta.Stamp), max(r.Batch, p.Meta.Batch)
		if counts(p.Place.Block) {
			r.Floor = max(r.Floor, p.Meta.Floor)
			if p.Meta.Kind == api.Commit {
				r.Floor = max(r.Floor, p.Meta.Key)
			}
		}
	}
	r.Batch = max(r.Batch, r.Floor)
	best := map[int]Page{}
	for _, p := range l {
		if p.Class != api.Whole || !counts(p.Place.Block) {
			continue
		}
		if p.Meta.Batch > r.Floor {
			r.Orphans = append(r.Orphans, p.Place)
			continue
		}
		key := -1
		switch k := p.Meta.Key; {
		case p.Meta.Kind == api.Commit:
			key = sectors + blocks + pages
		case (p.Meta.Kind == api.Data || p.Meta.Kind == api.Trim) && k < sectors:
			key = k
		case p.Meta.Kind == api.Bad && k < blocks:
			key = sectors + k
		case p.Meta.Kind == api.Check && k < pages:
			key = sectors + blocks + k
		}
		if q, ok := best[key]; key >= 0 && (!ok || meta.Newer(p.Meta, q.Meta)) {
			best[key] = p
		}
	}
	for k, p := range best {
		r.Slots = append(r.Slots, slot(k, p))
	}
	sort.Slice(r.Slots, func(i, j int) bool { return r.Slots[i].Key < r.Slots[j].Key })
	for b := range blocks {
		if slices.Contains(skip, b) || slices.Contains(r.Bad, b) {
			continue
		}
		free, dirty := true, !headed(b) || !slices.ContainsFunc(r.Slots, func(s table.Slot) bool { return s.Place.Block == b })
		for _, p := range l {
			if p.Place.Block == b && p.Class != api.Erased {
				free = false
				dirty = dirty || p.Class == api.Torn || p.Meta.Batch > r.Floor
			}
		}
		switch {
		case free:
			r.Free = append(r.Free, b)
		case dirty:
			r.Dirty = append(r.Dirty, b)
		}
	}
	return r
}

func isHead(l []Page, b int) bool {
	return slices.ContainsFunc(l, func(p Page) bool {
		return p.Place == at(b, 0) && p.Class == api.Whole && p.Meta.Kind == api.Head && p.Meta.Key == b
	})
}

func TestWinner(t *testing.T) {
	p := func(n, class, seq, stamp, batch int) Page {
		return Page{at(0, n), class, api.Meta{Kind: 2, Seq: seq, Stamp: stamp, Batch: batch}}
	}
	for i, x := range []struct {
		l    []Page
		want int
	}{
		{nil, -1}, {[]Page{p(1, api.Torn, 9, 0, 0), p(2, api.Erased, 9, 0, 0), p(3, api.Whole, 9, 0, 4)}, -1}, {[]Page{p(1, 1, 1, 1, 0), p(2, 1, 2, 9, 3), p(3, 1, 9, 1, 4)}, 2},
		{[]Page{p(1, 1, 5, 5, 0), p(2, 1, 5, 4, 0), p(3, 1, 5, 4, 0), p(4, 1, 4, 1, 0)}, 2}, {[]Page{p(7, 1, -5, 0, 0)}, 7},
	} {
		q, ok := Winner(x.l, 3)
		if ok != (x.want >= 0) || ok && q.Place.Page != x.want || !ok && q != (Page{}) {
			t.Error(i, q, ok)
		}
	}
}

func TestMerge(t *testing.T) {
	s := func(key, block, seq, stamp int) table.Slot {
		return table.Slot{Key: key, Place: at(block, 1), Meta: api.Meta{Kind: 2, Seq: seq, Stamp: stamp}}
	}
	a := Result{Slots: []table.Slot{s(1, 0, 5, 5), s(3, 0, 5, 5), s(4, 0, 5, 5)}, Seq: 5, Stamp: 2, Batch: 9, Floor: 1, Free: []int{1, 4}, Dirty: []int{2}, Bad: []int{7}, Orphans: []api.Place{at(2, 1), at(2, 3)}}
	b := Result{Slots: []table.Slot{s(1, 1, 5, 5), s(2, 1, 1, 1), s(3, 1, 5, 4), s(4, 1, 6, 9)}, Seq: 4, Stamp: 3, Batch: 8, Floor: 2, Free: []int{0, 4}, Bad: []int{7, 6}, Orphans: []api.Place{at(2, 2), at(1, 9), at(2, 1)}}
	want := Result{Slots: []table.Slot{s(1, 0, 5, 5), s(2, 1, 1, 1), s(3, 1, 5, 4), s(4, 1, 6, 9)}, Seq: 5, Stamp: 3, Batch: 9, Floor: 2, Free: []int{0, 1, 4}, Dirty: []int{2}, Bad: []int{6, 7}, Orphans: []api.Place{at(1, 9), at(2, 1), at(2, 2), at(2, 3)}}
	got := Merge(a, b)
	same(t, got, want)
	got.Free[0], got.Slots[0].Key = 9, 9
	same(t, Merge(a, b), want)
	same(t, Merge(Result{}, Result{}), Result{})
	same(t, Merge(b, b), Result{Slots: b.Slots, Seq: 4, Stamp: 3, Batch: 8, Floor: 2, Free: []int{0, 4}, Bad: []int{6, 7}, Orphans: []api.Place{at(1, 9), at(2, 1), at(2, 2)}})
}
