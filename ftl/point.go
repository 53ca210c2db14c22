package ftl

import (
	"slices"

	"shale/api"
	"shale/checkpoint"
	"shale/places"
	"shale/table"
)

// pieces is the slots of the checkpoint's pieces, by their places in it.
func (f *FTL) pieces() []table.Slot {
	return slices.DeleteFunc(f.table.All(), func(s table.Slot) bool { return s.Meta.Kind != api.Check })
}

// Point lays a checkpoint.
func (f *FTL) Point() error {
	if err := f.ready(); err != nil {
		return err
	}
	p := f.point()
	b, err := checkpoint.Bytes(p)
	if err != nil {
		return f.met(err)
	}
	// How many pieces there are does not hang on the number.
	l, err := checkpoint.Pieces(b, f.g.Sector, 0)
	if err != nil || 2*len(l) > f.g.Pages {
		return api.ErrMany
	}
	if p.Seq, err = f.next(); err != nil {
		return f.met(err)
	}
	return f.met(f.layPoint(p, len(l)))
}

// point is what is to be said of the sealed blocks, with the Seq up to now.
func (f *FTL) point() checkpoint.Point {
	p := checkpoint.Point{Seq: f.seq, Stamp: f.log.Stamp(), Batch: f.batch, Floor: f.floor}
	for _, b := range f.sealed() {
		p.Blocks = append(p.Blocks, checkpoint.Block{Number: b.Number, Stamp: f.heads[b.Number]})
		p.Slots = append(p.Slots, f.told(b.Number)...)
	}
	return p
}

// told is the slots of a block that a point tells of. A twin of a live page is one of them: a mount without
// points may find it ahead of the live one, which may be erased then; a mount with them must find it too.
func (f *FTL) told(block int) []table.Slot {
	l := f.table.Slots(block)
	for _, s := range f.twins {
		if live, ok := f.table.Get(s.Key); ok && s.Place.Block == block && same(live.Meta, s.Meta) {
			l = append(l, s)
		}
	}
	l = slices.DeleteFunc(l, func(s table.Slot) bool { return s.Meta.Kind == api.Check })
	slices.SortFunc(l, func(s, t table.Slot) int { return places.Compare(s.Place, t.Place) })
	return l
}

// same tells whether both are the same version of one key.
func same(m, n api.Meta) bool { return m.Kind == n.Kind && m.Key == n.Key && m.Seq == n.Seq }

// layPoint lays the n pieces of p.
func (f *FTL) layPoint(p checkpoint.Point, n int) error {
	b, err := checkpoint.Bytes(p)
	if err != nil {
		return err
	}
	l, err := checkpoint.Pieces(b, f.g.Sector, p.Seq)
	if err != nil {
		return err
	}
	if err := f.spread(); err != nil {
		return err
	}
	if err := f.makeRoom(n); err != nil {
		return err
	}
	var laid []table.Slot
	for i, piece := range l {
		s, err := f.append(api.Meta{Kind: api.Check, Key: i, Seq: p.Seq}, piece)
		if err != nil {
			return err
		}
		laid = append(laid, s)
	}
	return f.replacePieces(laid)
}

// replacePieces lets the table have these pieces, and no others.
func (f *FTL) replacePieces(laid []table.Slot) error {
	for _, s := range f.pieces() {
		f.table.Drop(s.Key)
	}
	for _, s := range laid {
		if err := f.set(s); err != nil {
			return err
		}
	}
	return nil
}
