// Package places: the order of pages on a chip, which several layers sort by.
package places

import (
	"cmp"

	"shale/api"
)

// Compare orders places by block, then page.
func Compare(p, q api.Place) int {
	return cmp.Or(cmp.Compare(p.Block, q.Block), cmp.Compare(p.Page, q.Page))
}
