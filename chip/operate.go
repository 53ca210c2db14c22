package chip

import (
	"bytes"

	"shale/api"
)

// amiss is what goes amiss with one operation.
type amiss struct {
	cut, fail   bool
	done, laid  int   // how much is done ahead of the cut, or of the fail
	flip, spoil []int // bits that are turned
}

// count counts an operation, and tells what the plan has for it.
func (c *Chip) count(level int) amiss {
	var a amiss
	for _, f := range c.plan[c.ops] {
		switch {
		case f.Kind == api.Flip && (f.Level == level || f.Level == -1):
			a.flip = append(a.flip, f.Bits...)
		case f.Kind == api.Spoil:
			a.spoil = append(a.spoil, f.Bits...)
		case f.Kind == api.Cut && !a.cut:
			a.cut, a.done = true, f.N
		case f.Kind == api.Fail && !a.fail:
			a.fail, a.laid = true, f.N
		}
	}
	c.ops++
	return a
}

// turn turns those of the bits that b has.
func turn(b []byte, bits []int) {
	for _, i := range bits {
		if i >= 0 && i < 8*len(b) {
			b[i/8] ^= 1 << (i % 8)
		}
	}
}

// cut turns the power off.
func (c *Chip) cut() error {
	c.off = true
	return api.ErrDead
}

// Read is what the page's cells are at a level.
func (c *Chip) Read(p api.Place, level int) ([]byte, error) {
	if c.off {
		return nil, api.ErrDead
	}
	x := c.at(p)
	if x == nil || level < 0 || level >= c.levels {
		return nil, api.ErrOrder
	}
	a := c.count(level)
	if a.cut {
		return nil, c.cut()
	}
	b := bytes.Clone(x.bits)
	turn(b, a.flip)
	c.watch(p, level, bytes.Clone(b), bytes.Clone(x.laid))
	return b, nil
}

// Program lays b on the page.
func (c *Chip) Program(p api.Place, b []byte) error {
	if c.off {
		return api.ErrDead
	}
	x := c.at(p)
	if x == nil {
		return api.ErrOrder
	}
	if len(b) != c.size {
		return api.ErrSize
	}
	a := c.count(0)
	if !c.inOrder(p) {
		c.broken++
	}
	laid, n := bytes.Clone(b), c.size
	turn(laid, a.spoil)
	switch {
	case a.cut:
		n = a.done
	case a.fail:
		n = a.laid
	}
	for i := range min(n, c.size) {
		x.bits[i] &= laid[i]
	}
	x.used, x.laid = true, bytes.Clone(b)
	switch {
	case a.cut:
		return c.cut()
	case a.fail:
		return api.ErrFailed
	}
	return nil
}

// inOrder tells whether p is the first page of its block that is not used.
func (c *Chip) inOrder(p api.Place) bool {
	for i, x := range c.cells[p.Block] {
		if x.used != (i < p.Page) {
			return false
		}
	}
	return true
}

// Erase makes a block's pages blank.
func (c *Chip) Erase(block int) error {
	if c.off {
		return api.ErrDead
	}
	if block < 0 || block >= c.blocks {
		return api.ErrOrder
	}
	a := c.count(0)
	n := c.pages
	switch {
	case a.cut:
		n = a.done
	case a.fail:
		n = 0
	}
	for i := range min(n, c.pages) {
		c.cells[block][i] = c.blank()
	}
	switch {
	case a.cut:
		return c.cut()
	case a.fail:
		return api.ErrFailed
	}
	c.worn[block]++
	return nil
}
