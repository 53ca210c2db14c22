package ftl

import (
	"slices"

	"shale/api"
	"shale/checkpoint"
	"shale/chip"
	"shale/places"
	"shale/scan"
	"shale/table"
)

// Format makes a disk without sectors.
func Format(c *chip.Chip, g api.Geometry) (*FTL, error) {
	f, err := made(c, g)
	if err != nil {
		return nil, err
	}
	var failed []int
	for b := range g.Blocks {
		if c.Marked(b) {
			continue
		}
		ok, err := f.blank(b)
		if err != nil {
			return nil, err
		}
		if !ok {
			f.retire(b)
			failed = append(failed, b)
		}
	}
	for _, b := range failed {
		if err := f.met(f.layBad(b)); err != nil {
			break
		}
	}
	return f.mounted()
}

// mounted is the FTL, if the power did not go.
func (f *FTL) mounted() (*FTL, error) {
	if f.broken {
		return nil, api.ErrDead
	}
	return f, nil
}

// blank makes a block free, whatever is on it; false, if the chip failed.
func (f *FTL) blank(block int) (bool, error) {
	for i := range f.g.Pages {
		p := api.Place{Block: block, Page: i}
		if f.c.Used(p) || slices.ContainsFunc(f.c.Cells(p), func(b byte) bool { return b != 255 }) {
			return f.erase(block)
		}
	}
	f.d.Fresh(block)
	return true, f.release(block)
}

// mounting is an FTL that is being mounted, and what was read by now.
type mounting struct {
	*FTL
	marked []int
	pages  []scan.Page
	checks map[api.Place][]byte // the sectors of Check pages
	found  scan.Result
}

// Mount finds a disk again.
func Mount(c *chip.Chip, g api.Geometry, points bool) (*FTL, error) {
	f, err := made(c, g)
	if err != nil {
		return nil, err
	}
	m := &mounting{FTL: f, checks: make(map[api.Place][]byte)}
	if err := m.readAll(); err != nil {
		return nil, err
	}
	if err := m.scan(points); err != nil {
		return nil, err
	}
	if err := m.take(); err != nil {
		return nil, err
	}
	// What it meets on the way is kept: the disk is there, but for want of power.
	_ = f.met(m.clean())
	f.log.Seal()
	return f.mounted()
}

// readAll reads every page of the blocks that are not marked.
func (m *mounting) readAll() error {
	for b := range m.g.Blocks {
		if m.c.Marked(b) {
			m.marked = append(m.marked, b)
			continue
		}
		for i := range m.g.Pages {
			p := api.Place{Block: b, Page: i}
			r, err := m.reader.Read(p)
			if err != nil {
				return err
			}
			m.pages = append(m.pages, scan.Page{Place: p, Class: r.Class, Meta: r.Meta})
			if r.Meta.Kind == api.Check {
				m.checks[p] = r.Data
			}
		}
	}
	return nil
}

// scan finds what the pages say, and again with the point's pages, if there is one.
func (m *mounting) scan(points bool) error {
	r, err := scan.Of(m.g.Blocks, m.g.Pages, m.sectors, m.marked, m.pages)
	if err != nil {
		return err
	}
	m.found = r
	m.findTwins()
	if !points {
		return nil
	}
	p, ok := m.findPoint()
	if !ok {
		return nil
	}
	m.pages = m.byPoint(p)
	m.found, err = scan.Of(m.g.Blocks, m.g.Pages, m.sectors, m.marked, m.pages)
	return err
}

// findTwins takes the pages that say the same as a winning one elsewhere.
func (m *mounting) findTwins() {
	wins := make(map[int]table.Slot)
	for _, s := range m.found.Slots {
		wins[s.Key] = s
	}
	for _, p := range m.pages {
		if p.Class != api.Whole || p.Meta.Kind == api.Head {
			continue
		}
		key := m.key(p.Meta)
		if s, ok := wins[key]; ok && s.Place != p.Place && same(s.Meta, p.Meta) {
			m.twins = append(m.twins, table.Slot{Key: key, Place: p.Place, Meta: p.Meta})
		}
	}
}

// findPoint is the point whose pieces the winning Check pages are.
func (m *mounting) findPoint() (checkpoint.Point, bool) {
	var l [][]byte
	for _, s := range m.found.Slots {
		if s.Meta.Kind == api.Check {
			l = append(l, m.checks[s.Place])
		}
	}
	_, b, err := checkpoint.Join(l)
	if err != nil {
		return checkpoint.Point{}, false
	}
	p, err := checkpoint.Open(b)
	return p, err == nil && m.has(p)
}

// has tells whether there are all places that a point names.
func (m *mounting) has(p checkpoint.Point) bool {
	for _, b := range p.Blocks {
		if b.Number >= m.g.Blocks {
			return false
		}
	}
	for _, s := range p.Slots {
		if s.Place.Page >= m.g.Pages {
			return false
		}
	}
	return true
}

// byPoint is the pages that were read, but of the blocks that the point still tells of those that it tells.
func (m *mounting) byPoint(p checkpoint.Point) []scan.Page {
	told := make([]bool, m.g.Blocks)
	for _, b := range p.Blocks {
		stamp, ok := m.head(b.Number)
		told[b.Number] = ok && stamp == b.Stamp
	}
	isTold := func(q scan.Page) bool { return told[q.Place.Block] }
	l := slices.DeleteFunc(slices.Clone(m.pages), isTold)
	for _, q := range checkpoint.Pages(p) {
		if isTold(q) {
			l = append(l, q)
		}
	}
	slices.SortFunc(l, func(a, b scan.Page) int { return places.Compare(a.Place, b.Place) })
	return l
}

// head is the stamp of a block's Head, if its first page is a whole one of it.
func (m *mounting) head(block int) (int, bool) {
	at := slices.IndexFunc(m.pages, func(p scan.Page) bool { return p.Place == api.Place{Block: block} })
	if at < 0 {
		return 0, false
	}
	p := m.pages[at]
	return p.Meta.Stamp, p.Class == api.Whole && p.Meta.Kind == api.Head && p.Meta.Key == block
}

// take takes over what was found.
func (m *mounting) take() error {
	for _, s := range m.found.Slots {
		if err := m.set(s); err != nil {
			return err
		}
	}
	for b := range m.heads {
		if stamp, ok := m.head(b); ok {
			m.heads[b] = stamp
		}
	}
	m.seq, m.batch, m.floor = m.found.Seq, m.found.Batch, m.found.Floor
	m.begin(m.found.Stamp)
	return nil
}

// clean makes of what was found a disk that can be written.
func (m *mounting) clean() error {
	for _, b := range m.found.Bad {
		m.retire(b)
	}
	for _, b := range m.found.Free {
		if err := m.freshen(b); err != nil {
			return err
		}
	}
	stale, torn, live := m.dirty()
	for _, b := range append(torn, stale...) {
		if err := m.wipe(b); err != nil {
			return err
		}
	}
	for _, b := range live {
		if err := m.empty(b); err != nil {
			return err
		}
	}
	return nil
}

// dirty is the dirty blocks: those without live pages, of these the ones with a torn page apart, and those with some.
func (m *mounting) dirty() (stale, torn, live []int) {
	for _, b := range m.found.Dirty {
		isTorn := func(p scan.Page) bool { return p.Place.Block == b && p.Class == api.Torn }
		switch {
		case m.table.Live(b) > 0:
			live = append(live, b)
		case slices.ContainsFunc(m.pages, isTorn):
			torn = append(torn, b)
		default:
			stale = append(stale, b)
		}
	}
	return stale, torn, live
}

// freshen makes a block free that reads as erased.
func (m *mounting) freshen(block int) error {
	for i := range m.g.Pages {
		if m.c.Used(api.Place{Block: block, Page: i}) {
			return m.wipe(block)
		}
	}
	m.d.Fresh(block)
	return m.release(block)
}

// wipe erases a block without live pages; where that fails it is let be, and that is laid as soon as there is room.
func (m *mounting) wipe(block int) error {
	erased, err := m.erase(block)
	if err != nil || erased {
		return err
	}
	m.retire(block)
	m.owed = append(m.owed, block)
	return m.settle()
}
