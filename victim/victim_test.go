package victim

import (
	"math/rand"
	"slices"
	"testing"

	"shale/api"
)

func example() []Block {
	return []Block{{0, 3, 1, false}, {1, 2, 9, false}, {2, 2, 4, false}, {3, 8, 0, true}}
}

func TestExamples(t *testing.T) {
	q := Of(example())
	for i, want := range []int{3, 2, 1, 0} {
		if b, ok := q.Next(); b.Number != want || !ok || q.Len() != 3-i {
			t.Error(i, b)
		}
	}
	if b, ok := q.Next(); b != (Block{}) || ok || q.Len() != 0 {
		t.Error("of none")
	}
	if b, ok := Cold(example()); b.Number != 0 || !ok {
		t.Error("Cold", b)
	}
	if b, ok := Greedy(example()); b.Number != 3 || !ok {
		t.Error("Greedy", b)
	}
	if Gap(example(), []int{12}) != 11 {
		t.Error("Gap")
	}
}

func TestNone(t *testing.T) {
	failed := []Block{{Number: 4, Worn: 7, Failed: true}}
	if b, ok := Greedy(nil); b != (Block{}) || ok {
		t.Error("Greedy")
	}
	for _, l := range [][]Block{nil, failed} {
		if b, ok := Cold(l); b != (Block{}) || ok {
			t.Error("Cold")
		}
		if Gap(l, nil) != 0 || Gap(l, []int{5}) != 0 || Gap(l, []int{5, 9}) != 4 {
			t.Error("Gap")
		}
	}
	if len(Order(nil)) != 0 || Of(nil).Len() != 0 {
		t.Error("Order, Of")
	}
}

// ahead is the order by the document's words.
func ahead(a, b Block) bool {
	switch {
	case a.Failed != b.Failed:
		return a.Failed
	case a.Live != b.Live:
		return a.Live < b.Live
	case a.Worn != b.Worn:
		return a.Worn < b.Worn
	}
	return a.Number < b.Number
}

func TestOrder(t *testing.T) {
	r := rand.New(rand.NewSource(1))
	for range 500 {
		l := make([]Block, r.Intn(12))
		for i := range l {
			l[i] = Block{r.Intn(4), r.Intn(3), r.Intn(3), r.Intn(4) == 0}
		}
		was := slices.Clone(l)
		o, q := Order(l), Of(l)
		for i := range o {
			if i > 0 && ahead(o[i], o[i-1]) {
				t.Fatal("the order", o)
			}
			if b, ok := q.Next(); b != o[i] || !ok {
				t.Fatal("Next", b, o[i])
			}
		}
		if b, ok := Greedy(l); ok != (len(l) > 0) || ok && b != o[0] {
			t.Fatal("Greedy")
		}
		c, ok := Cold(l)
		for _, b := range l {
			if !b.Failed && (!ok || b.Worn < c.Worn || b.Worn == c.Worn && (b.Live < c.Live || b.Live == c.Live && b.Number < c.Number)) {
				t.Fatal("Cold", c, b)
			}
		}
		if ok && !slices.Contains(l, c) {
			t.Fatal("Cold")
		}
		if !slices.Equal(l, was) {
			t.Fatal("what was handed in is changed")
		}
		if len(o) > 0 {
			o[0].Number = 99
		}
		if !slices.Equal(l, was) {
			t.Fatal("memory")
		}
	}
}

func TestGap(t *testing.T) {
	far := 1<<63 - 1
	for _, x := range []struct {
		worn []int
		free []int
		want int
	}{
		{[]int{3}, nil, 0}, {[]int{3, 8}, nil, 5}, {[]int{3, 8}, []int{1, 5}, 7}, {nil, []int{4, 2}, 2}, {[]int{-5, 3}, nil, 3}, {[]int{-far, -1}, nil, 0},
		{[]int{far, 1}, nil, api.MaxNum - 1}, {[]int{5}, []int{-far, far}, api.MaxNum}, {[]int{far, api.MaxNum}, nil, 0},
	} {
		var l []Block
		for i, w := range x.worn {
			l = append(l, Block{Number: i, Worn: w})
		}
		l = append(l, Block{Worn: 500, Failed: true})
		if Gap(l, x.free) != x.want {
			t.Error(x, Gap(l, x.free))
		}
	}
}

func TestKept(t *testing.T) {
	l := example()
	q := Of(l)
	l[3] = Block{}
	if b, _ := q.Next(); b.Number != 3 {
		t.Error("what was handed in is kept")
	}
}
