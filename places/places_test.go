package places

import (
	"testing"

	"shale/api"
)

func TestCompare(t *testing.T) {
	at := func(block, page int) api.Place { return api.Place{Block: block, Page: page} }
	for _, x := range []struct {
		p, q api.Place
		want int
	}{{at(1, 2), at(1, 2), 0}, {at(1, 9), at(2, 0), -1}, {at(3, 0), at(2, 9), 1}, {at(2, 3), at(2, 4), -1}, {at(2, 5), at(2, 4), 1}} {
		if got := Compare(x.p, x.q); got != x.want {
			t.Error(x, got)
		}
	}
}
