package ftl

import (
	"slices"

	"shale/api"
	"shale/table"
	"shale/victim"
)

// move lays a live page anew; false, if it cannot be read any more.
func (f *FTL) move(s table.Slot) (bool, error) {
	data, ok, err := f.read(s)
	if err != nil {
		return false, err
	}
	if !ok {
		f.stuck = append(f.stuck, s.Place)
		return false, nil
	}
	if err := f.lay(api.Meta{Kind: s.Meta.Kind, Key: s.Meta.Key, Seq: s.Meta.Seq}, data); err != nil {
		return false, err
	}
	f.moved++
	f.twins = append(f.twins, s)
	return true, nil
}

// empty makes a sealed block free, or bad; it is let be, if a page of it cannot be moved.
func (f *FTL) empty(block int) error {
	for _, step := range []func(block int) (bool, error){f.moveAll, f.retireFailed, f.renew} {
		if done, err := step(block); done || err != nil {
			return err
		}
	}
	return nil
}

// moveAll moves the block's live pages; true, if one of them cannot be.
func (f *FTL) moveAll(block int) (bool, error) {
	for _, s := range f.table.Slots(block) {
		if moved, err := f.move(s); !moved || err != nil {
			return true, err
		}
	}
	return false, nil
}

// retireFailed lets a block be that failed; false, if it did not.
func (f *FTL) retireFailed(block int) (bool, error) {
	if !slices.Contains(f.log.Failed(), block) {
		return false, nil
	}
	return true, f.condemn(block)
}

// condemn lays that a block is bad, and lets it be.
func (f *FTL) condemn(block int) error {
	if err := f.layBad(block); err != nil {
		return err
	}
	f.retire(block)
	return nil
}

// renew erases a block; where that fails it is bad.
func (f *FTL) renew(block int) (bool, error) {
	erased, err := f.erase(block)
	if err == nil && !erased {
		err = f.condemn(block)
	}
	return true, err
}

// bad is how many blocks are bad.
func (f *FTL) bad() int {
	n := 0
	for b := range f.g.Blocks {
		if f.d.Bad(b) {
			n++
		}
	}
	return n
}

// block is what is told of a block that is filled.
func (f *FTL) block(b int) victim.Block {
	return victim.Block{Number: b, Live: f.table.Live(b), Worn: f.c.Worn(b), Failed: slices.Contains(f.log.Failed(), b)}
}

// sealed is the blocks that are neither bad, nor free, nor open.
func (f *FTL) sealed() []victim.Block {
	var l []victim.Block
	open, isOpen := f.log.Open()
	for b := range f.g.Blocks {
		if !f.d.Bad(b) && !f.free.Has(b) && !(isOpen && b == open) {
			l = append(l, f.block(b))
		}
	}
	return l
}

// candidates is the sealed blocks that can be emptied.
func (f *FTL) candidates() []victim.Block {
	return slices.DeleteFunc(f.sealed(), func(b victim.Block) bool {
		return slices.ContainsFunc(f.stuck, func(p api.Place) bool {
			_, live := f.table.At(p)
			return p.Block == b.Number && live
		})
	})
}

// gap is how far the wear of the blocks that are not bad is apart.
func (f *FTL) gap() int {
	l := f.sealed()
	if open, ok := f.log.Open(); ok {
		l = append(l, f.block(open))
	}
	var free []int
	for _, worn := range f.free.Each() {
		free = append(free, worn)
	}
	return victim.Gap(l, free)
}

// victim is the block that is emptied next; false, if none is worth it.
func (f *FTL) victim() (int, bool) {
	b, ok := victim.Of(f.candidates()).Next()
	return b.Number, ok && (b.Failed || b.Live < f.g.Pages-1)
}

// wanted is how many blocks must be free ahead of laying n pages.
func (f *FTL) wanted(n int) int {
	most := f.g.Pages - 1
	spare := f.g.Reserve - f.bad() - len(f.log.Failed())
	return (n+1+most-1)/most + 2 + max(0, spare)
}

// makeRoom empties blocks until there is room for n pages.
func (f *FTL) makeRoom(n int) error {
	for range 4 * f.g.Blocks {
		if f.free.Len() >= f.wanted(n) {
			return nil
		}
		b, ok := f.victim()
		if !ok {
			return api.ErrFull
		}
		if err := f.empty(b); err != nil {
			return err
		}
	}
	return nil
}

// spread empties the least worn block, if wear is too far apart.
func (f *FTL) spread() error {
	if f.gap() <= f.g.Wear {
		return nil
	}
	cold, ok := victim.Cold(f.candidates())
	_, least, isFree := f.free.Least()
	if !ok || isFree && cold.Worn >= least {
		return nil
	}
	return f.empty(cold.Number)
}

// Collect empties blocks, n at most.
func (f *FTL) Collect(n int) error {
	if err := f.ready(); err != nil {
		return err
	}
	for range min(n, f.g.Blocks) {
		b, ok := f.victim()
		if !ok {
			break
		}
		if err := f.empty(b); err != nil {
			return f.met(err)
		}
	}
	return nil
}
