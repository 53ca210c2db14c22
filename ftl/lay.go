package ftl

import (
	"slices"

	"shale/api"
	"shale/table"
)

// key is the table's key of a page.
func (f *FTL) key(m api.Meta) int {
	keys := map[int]func(f *FTL, n int) int{
		api.Data:   (*FTL).sectorKey,
		api.Trim:   (*FTL).sectorKey,
		api.Bad:    (*FTL).badKey,
		api.Check:  (*FTL).checkKey,
		api.Commit: (*FTL).commitKey,
	}
	return keys[m.Kind](f, m.Key)
}

func (f *FTL) sectorKey(n int) int { return n }
func (f *FTL) badKey(n int) int    { return f.sectors + n }
func (f *FTL) checkKey(n int) int  { return f.sectors + f.g.Blocks + n }
func (f *FTL) commitKey(int) int   { return f.checkKey(f.g.Pages) }

// next is the next Seq.
func (f *FTL) next() (int, error) {
	if f.seq >= api.MaxNum {
		return 0, api.ErrReadOnly
	}
	f.seq++
	return f.seq, nil
}

// zeros is a sector of zeros.
func (f *FTL) zeros() []byte { return make([]byte, f.g.Sector) }

// append lays a page, and is the slot that it makes.
func (f *FTL) append(m api.Meta, data []byte) (table.Slot, error) {
	had, stamp := f.log.Sealed(), f.log.Stamp()
	if f.log.Room() > 0 {
		stamp++
	}
	if open, ok := f.log.Open(); ok {
		had = append(had, open)
	}
	p, err := f.log.Append(m, data)
	f.noteFailed(had, stamp)
	if err != nil {
		return table.Slot{}, err
	}
	m.Stamp, m.Floor = f.log.Stamp(), f.floor
	if p.Page == 1 {
		f.heads[p.Block] = m.Stamp - 1
	}
	return table.Slot{Key: f.key(m), Place: p, Meta: m}, nil
}

// noteFailed takes the stamps of the Heads of blocks that were sealed as soon as they were opened, behind a stamp.
func (f *FTL) noteFailed(had []int, stamp int) {
	for _, b := range f.log.Sealed() {
		if slices.Contains(had, b) {
			continue
		}
		stamp++
		f.heads[b] = stamp
		if f.c.Used(api.Place{Block: b, Page: 1}) {
			stamp++
		}
	}
}

// lay lays a page that the table has from then on.
func (f *FTL) lay(m api.Meta, data []byte) error {
	s, err := f.append(m, data)
	if err != nil {
		return err
	}
	return f.set(s)
}

// set lets the table have a slot.
func (f *FTL) set(s table.Slot) error {
	_, _, err := f.table.Set(s.Key, s.Place, s.Meta)
	return err
}

// layBad lays that a block is bad.
func (f *FTL) layBad(block int) error {
	seq, err := f.next()
	if err != nil {
		return err
	}
	return f.lay(api.Meta{Kind: api.Bad, Key: block, Seq: seq}, f.zeros())
}

// retire lets the block be, for good.
func (f *FTL) retire(block int) {
	f.d.Retire(block)
	f.forget(block)
}

// forget lets nothing be known any more of a block's pages.
func (f *FTL) forget(block int) {
	f.log.Forget(block)
	f.reader.Forget(block)
	f.stuck = slices.DeleteFunc(f.stuck, func(p api.Place) bool { return p.Block == block })
	f.twins = slices.DeleteFunc(f.twins, func(s table.Slot) bool { return s.Place.Block == block })
}

// erase makes the block free; false, if the chip failed.
func (f *FTL) erase(block int) (bool, error) {
	switch err := f.d.Erase(block); err {
	case nil:
		f.erased++
		f.forget(block)
		return true, f.release(block)
	case api.ErrFailed:
		return false, nil
	default:
		return false, err
	}
}

// release lets an erased block be free, and lays what waited for it.
func (f *FTL) release(block int) error {
	if err := f.free.Add(block, f.c.Worn(block)); err != nil {
		return err
	}
	return f.settle()
}

// settle lays each Bad that is owed, as long as there is room for it.
func (f *FTL) settle() error {
	for len(f.owed) > 0 && (f.free.Len() > 0 || f.log.Room() > 0) {
		block := f.owed[0]
		f.owed = f.owed[1:]
		if err := f.layBad(block); err != nil {
			return err
		}
	}
	return nil
}
