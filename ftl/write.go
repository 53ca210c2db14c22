package ftl

import (
	"shale/api"
	"shale/table"
)

// mostWeak is how many weak pages a batch moves at most.
const mostWeak = 4

// Write lays a batch of sectors, whole or not at all.
func (f *FTL) Write(l []api.Entry) error {
	if err := f.ready(); err != nil {
		return err
	}
	if err := f.check(l); err != nil || len(l) == 0 {
		return err
	}
	return f.met(f.write(l))
}

// check tells why l is no batch.
func (f *FTL) check(l []api.Entry) error {
	keys := make(map[int]int)
	for _, e := range l {
		keys[e.Key]++
	}
	if len(l) > f.g.Buffer || len(keys) < len(l) {
		return api.ErrMany
	}
	for _, e := range l {
		if !f.is(e.Key) {
			return api.ErrNumber
		}
		if !e.Trim && len(e.Data) != f.g.Sector {
			return api.ErrSize
		}
	}
	return nil
}

// write makes room for a batch, and lays it.
func (f *FTL) write(l []api.Entry) error {
	if err := f.refresh(); err != nil {
		return err
	}
	if err := f.spread(); err != nil {
		return err
	}
	if err := f.makeRoom(len(l) + 1); err != nil {
		return err
	}
	f.batch++
	var laid []table.Slot
	for _, e := range l {
		s, err := f.appendNext(f.page(e))
		if err != nil {
			return err
		}
		laid = append(laid, s)
	}
	s, err := f.appendNext(api.Meta{Kind: api.Commit, Key: f.batch}, f.zeros())
	if err != nil {
		return err
	}
	return f.commit(append(laid, s))
}

// page is the record and the sector of an entry.
func (f *FTL) page(e api.Entry) (api.Meta, []byte) {
	if e.Trim {
		return api.Meta{Kind: api.Trim, Key: e.Key}, f.zeros()
	}
	return api.Meta{Kind: api.Data, Key: e.Key}, e.Data
}

// appendNext lays a page of this batch with the next Seq.
func (f *FTL) appendNext(m api.Meta, data []byte) (table.Slot, error) {
	seq, err := f.next()
	if err != nil {
		return table.Slot{}, err
	}
	m.Seq, m.Batch = seq, f.batch
	return f.append(m, data)
}

// commit lets the table have a batch that is whole.
func (f *FTL) commit(laid []table.Slot) error {
	for _, s := range laid {
		if err := f.set(s); err != nil {
			return err
		}
	}
	f.floor = f.batch
	f.log.Floor(f.floor)
	return nil
}

// refresh moves live pages that were hard to read.
func (f *FTL) refresh() error {
	left := min(mostWeak, f.g.Pages-1)
	for _, p := range f.reader.Weak(max(1, f.g.T-1)) {
		key, live := f.table.At(p)
		if !live {
			continue
		}
		if left == 0 {
			break
		}
		left--
		s, _ := f.table.Get(key)
		if _, err := f.move(s); err != nil {
			return err
		}
	}
	return nil
}
