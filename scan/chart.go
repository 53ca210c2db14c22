package scan

import (
	"shale/api"
	"shale/meta"
	"shale/places"
	"shale/table"
)

// chart is the pages of a chip by their places.
type chart struct {
	sectors   int
	grid      [][]Page
	skip, bad []bool
	wins      []bool // the blocks one of whose pages a key has
}

// newChart is a chart of erased pages.
func newChart(blocks, pages, sectors int, skip []int) *chart {
	c := &chart{sectors: sectors, skip: make([]bool, blocks), bad: make([]bool, blocks), wins: make([]bool, blocks)}
	for b := range blocks {
		l := make([]Page, pages)
		for i := range l {
			l[i] = Page{Place: api.Place{Block: b, Page: i}, Class: api.Erased}
		}
		c.grid = append(c.grid, l)
	}
	for _, b := range skip {
		if b >= 0 && b < blocks {
			c.skip[b] = true
		}
	}
	return c
}

// fill sets the pages in l; false, if one of them does not come there.
func (c *chart) fill(l []Page) bool {
	for i, p := range l {
		b, n := p.Place.Block, p.Place.Page
		if b < 0 || b >= len(c.grid) || n < 0 || n >= len(c.grid[0]) || c.skip[b] || p.Class < api.Whole || p.Class > api.Torn {
			return false
		}
		if i > 0 && places.Compare(l[i-1].Place, p.Place) >= 0 {
			return false
		}
		c.grid[b][n] = p
	}
	return true
}

// numbers is the blocks of which that is so, rising.
func (c *chart) numbers(is func(b int) bool) []int {
	var l []int
	for b := range c.grid {
		if is(b) {
			l = append(l, b)
		}
	}
	return l
}

// whole tells the whole pages of the blocks of which that is so, by place.
func (c *chart) whole(is func(b int) bool) func(yield func(Page) bool) {
	return func(yield func(Page) bool) {
		for _, b := range c.numbers(is) {
			for _, p := range c.grid[b] {
				if p.Class == api.Whole && !yield(p) {
					return
				}
			}
		}
	}
}

// every lets no block out.
func (c *chart) every(int) bool { return true }

// headed tells whether the block's first page is a whole Head of it.
func (c *chart) headed(b int) bool {
	p := c.grid[b][0]
	return p.Class == api.Whole && p.Meta.Kind == api.Head && p.Meta.Key == b
}

// left tells whether the block is neither skipped nor bad.
func (c *chart) left(b int) bool { return !c.skip[b] && !c.bad[b] }

// counts tells whether the block counts.
func (c *chart) counts(b int) bool { return c.headed(b) && c.left(b) }

// findBad takes the blocks that are said to be bad, by whichever block.
func (c *chart) findBad() {
	for p := range c.whole(c.headed) {
		if k := p.Meta.Key; p.Meta.Kind == api.Bad && p.Meta.Batch == 0 && k >= 0 && k < len(c.bad) {
			c.bad[k] = true
		}
	}
}

// count takes the greatest numbers.
func (c *chart) count(r *Result) {
	for p := range c.whole(c.every) {
		r.Seq, r.Stamp, r.Batch = max(r.Seq, p.Meta.Seq), max(r.Stamp, p.Meta.Stamp), max(r.Batch, p.Meta.Batch)
	}
	for p := range c.whole(c.counts) {
		r.Floor = max(r.Floor, p.Meta.Floor)
		if p.Meta.Kind == api.Commit {
			r.Floor = max(r.Floor, p.Meta.Key)
		}
	}
	r.Batch = max(r.Batch, r.Floor)
}

// key is the table's key of a page; false, if it has none, or one out of its bounds.
func (c *chart) key(m api.Meta) (int, bool) {
	blocks, pages := len(c.grid), len(c.grid[0])
	from, n := 0, 0
	switch m.Kind {
	case api.Data, api.Trim:
		n = c.sectors
	case api.Bad:
		from, n = c.sectors, blocks
	case api.Check:
		from, n = c.sectors+blocks, pages
	case api.Commit:
		return c.sectors + blocks + pages, true
	}
	if m.Key < 0 || m.Key >= n {
		return 0, false
	}
	return from + m.Key, true
}

// win finds of each key the page that has it.
func (c *chart) win(r *Result) {
	claims := make(map[int][]Page)
	for p := range c.whole(c.counts) {
		if k, ok := c.key(p.Meta); ok {
			claims[k] = append(claims[k], p)
		}
	}
	best := make(map[int]table.Slot)
	for k, l := range claims {
		if p, ok := Winner(l, r.Floor); ok {
			best[k] = table.Slot{Key: k, Place: p.Place, Meta: p.Meta}
			c.wins[p.Place.Block] = true
		}
	}
	r.Slots = byKey(best)
}

// sort takes what is free, what is dirty, and what is no one's.
func (c *chart) sort(r *Result) {
	r.Free = c.numbers(func(b int) bool { return c.left(b) && c.free(b) })
	r.Dirty = c.numbers(func(b int) bool { return c.left(b) && !c.free(b) && c.dirty(b, r.Floor) })
	for p := range c.whole(c.counts) {
		if !meta.Alive(p.Meta, r.Floor) {
			r.Orphans = append(r.Orphans, p.Place)
		}
	}
}

// free tells whether all pages of the block are erased.
func (c *chart) free(b int) bool {
	for _, p := range c.grid[b] {
		if p.Class != api.Erased {
			return false
		}
	}
	return true
}

// dirty tells whether a block that is not free cannot stay as it is.
func (c *chart) dirty(b, floor int) bool {
	for _, p := range c.grid[b] {
		if p.Class == api.Torn || p.Class == api.Whole && !meta.Alive(p.Meta, floor) {
			return true
		}
	}
	return !c.headed(b) || !c.wins[b]
}
