package search

import (
	"math/rand"
	"slices"
	"testing"

	"shale/api"
	"shale/field"
	"shale/fieldpoly"
	"shale/locate"
)

func of4(t *testing.T, m int) *field.Field {
	t.Helper()
	f, err := field.New(m)
	if err != nil {
		t.Fatal(err)
	}
	return f
}

func TestExamples(t *testing.T) {
	f := of4(t, 4)
	every := []int{0, 1, 2, 3, 4, 5, 6, 7, 8, 9, 10, 11, 12, 13, 14}
	for _, x := range []struct {
		p    []int
		n    int
		want []int
	}{
		{[]int{1, 3, 2}, 15, []int{0, 1}}, {[]int{1, 1}, 15, []int{0}}, {[]int{1}, 15, nil}, {[]int{1, 3, 2}, 1, []int{0}},
		{nil, 3, []int{0, 1, 2}}, {[]int{0, 16}, 99, every}, {nil, 0, nil}, {nil, -1, nil}, {[]int{1, 1}, -1 << 63, nil}, {nil, 1<<63 - 1, every},
		{[]int{17, 3 - 16, 34, 0}, 1 << 40, []int{0, 1}}, {[]int{0, 1}, 15, nil},
	} {
		if l := Search(f, x.p, x.n); !slices.Equal(l, x.want) {
			t.Error(x, l)
		}
		if l := Plain(f, x.p, x.n); !slices.Equal(l, x.want) {
			t.Error("Plain", x, l)
		}
	}
}

func TestValues(t *testing.T) {
	r := rand.New(rand.NewSource(1))
	for m := 3; m < 11; m++ {
		f := of4(t, m)
		for range 20 {
			p := make([]int, r.Intn(9))
			for i := range p {
				p[i] = r.Intn(2*f.Size()) * r.Intn(2)
			}
			n, next := r.Intn(2*f.Size()), 0
			var roots []int
			for i, v := range Steps(f, p, n) {
				if i != next || v != fieldpoly.New(f).Eval(p, f.Exp(-i)) {
					t.Fatal(p, n, i, v)
				}
				if v == 0 {
					roots = append(roots, i)
				}
				next++
			}
			if next != min(n, f.Size()-1) || !slices.Equal(roots, Search(f, p, n)) || !slices.Equal(roots, Plain(f, p, n)) {
				t.Fatal(p, n, next)
			}
		}
	}
}

func TestPlaces(t *testing.T) {
	r := rand.New(rand.NewSource(2))
	for m := 5; m < 13; m++ {
		f := of4(t, m)
		for range 10 {
			at := r.Perm(f.Size() - 1)[:r.Intn(20)]
			p, err := locate.Of(f, at)
			slices.Sort(at)
			if err != nil || !slices.Equal(Search(f, p, f.Size()-1), at) {
				t.Fatal(m, at)
			}
			n := r.Intn(f.Size())
			low, _ := slices.BinarySearch(at, n)
			if !slices.Equal(Search(f, p, n), at[:low]) || !slices.Equal(Plain(f, p, n), at[:low]) {
				t.Fatal(m, n, at)
			}
		}
	}
}

// TestSteps: it may be gone over again, left early, and hangs on nothing that was handed in.
func TestSteps(t *testing.T) {
	f := of4(t, 4)
	p := []int{1, 3, 2}
	s := Steps(f, p, 15)
	p[1] = 9
	for range 2 {
		var l []int
		for i, v := range s {
			l = append(l, v)
			if i == 2 {
				break
			}
		}
		if !slices.Equal(l[:2], []int{0, 0}) || l[2] == 0 {
			t.Error(l)
		}
	}
	n := 0
	for range s {
		for range s {
			n++
		}
	}
	if n != 225 {
		t.Error("within one another", n)
	}
}

// TestLong: of more than MaxDegree coefficients the first ones count.
func TestLong(t *testing.T) {
	f := of4(t, 4)
	p := make([]int, api.MaxDegree+20)
	p[0], p[1], p[2], p[api.MaxDegree] = 1, 3, 2, 5
	if !slices.Equal(Search(f, p, 15), []int{0, 1}) || !slices.Equal(Plain(f, p, 15), []int{0, 1}) {
		t.Error("too many")
	}
	for i, v := range Steps(f, p, 15) {
		if v != fieldpoly.New(f).Eval(p[:3], f.Exp(-i)) {
			t.Error(i)
		}
	}
	p[api.MaxDegree-1] = 5
	if slices.Equal(Search(f, p, 15), []int{0, 1}) || !slices.Equal(Search(f, p, 15), Plain(f, p, 15)) {
		t.Error("the last one that counts")
	}
}

func TestMemory(t *testing.T) {
	f := of4(t, 4)
	p := []int{1, 3, 2, 7}[:3]
	a, b := Search(f, p, 15), Search(f, p, 15)
	a[0] = 9
	_ = append(a, 9)
	if b[0] != 0 || !slices.Equal(p[:4], []int{1, 3, 2, 7}) {
		t.Error("memory")
	}
}
