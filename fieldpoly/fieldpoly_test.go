package fieldpoly

import (
	"math/rand"
	"slices"
	"testing"

	"shale/api"
	"shale/field"
)

func ring(t *testing.T, m int) *Ring {
	t.Helper()
	f, err := field.New(m)
	if err != nil {
		t.Fatal(err)
	}
	return New(f)
}

// some has n coefficients; their bits above the field's are anything.
func some(r *rand.Rand, n int) []int {
	l := make([]int, n)
	for i := range l {
		if r.Intn(4) > 0 {
			l[i] = int(r.Uint64())
		}
	}
	return l
}

func tidy(r *Ring, p []int) bool {
	for _, a := range p {
		if !r.f.Is(a) {
			return false
		}
	}
	return len(p) == 0 || p[len(p)-1] != 0
}

func TestExamples(t *testing.T) {
	r := ring(t, 4)
	if p, err := r.Mul([]int{1, 1}, []int{1, 1}); !slices.Equal(p, []int{1, 0, 1}) || err != nil {
		t.Error("Mul")
	}
	if r.Eval([]int{1, 1, 1}, 2) != 7 {
		t.Error("Eval")
	}
	if p, q, err := r.DivMod([]int{0, 0, 1}, []int{1, 1}); !slices.Equal(p, []int{1, 1}) || !slices.Equal(q, []int{1}) || err != nil {
		t.Error("DivMod")
	}
	if p, err := r.FromRoots([]int{2, 3}); !slices.Equal(p, []int{6, 1, 1}) || err != nil || !slices.Equal(r.Roots(p), []int{2, 3}) {
		t.Error("Roots")
	}
	if !slices.Equal(r.Derive([]int{1, 2, 3, 4}), []int{2, 0, 4}) {
		t.Error("Derive")
	}
	p, _ := r.FromRoots([]int{2, 3})
	q, _ := r.FromRoots([]int{3, 5})
	if !slices.Equal(r.Gcd(p, q), []int{3, 1}) {
		t.Error("Gcd")
	}
}

func TestTrim(t *testing.T) {
	r := ring(t, 3)
	if !slices.Equal(r.Trim([]int{9, -1, 16, 8, 0}), []int{1, 7}) || r.Degree([]int{9, -1, 16, 8, 0}) != 1 {
		t.Error("as elements")
	}
	if len(r.Trim(nil)) != 0 || len(r.Trim([]int{0, 8})) != 0 || r.Degree([]int{8}) != -1 || r.Degree(nil) != -1 {
		t.Error("of 0")
	}
}

func TestRing(t *testing.T) {
	rnd := rand.New(rand.NewSource(1))
	for n := range 600 {
		r := ring(t, 3+n%5)
		p, q, x := some(rnd, rnd.Intn(12)), some(rnd, rnd.Intn(12)), int(rnd.Uint64())
		s, k := r.Add(p, q), r.Scale(p, x)
		m, err := r.Mul(p, q)
		if err != nil || !tidy(r, s) || !tidy(r, m) || !tidy(r, k) {
			t.Fatal("untidy", p, q)
		}
		f := r.f
		if r.Eval(s, x) != f.Add(r.Eval(p, x), r.Eval(q, x)) || r.Eval(m, x) != f.Mul(r.Eval(p, x), r.Eval(q, x)) || r.Eval(k, 3) != f.Mul(r.Eval(p, 3), x) {
			t.Fatal("Eval", p, q, x)
		}
		if r.Degree(p) >= 0 && r.Degree(q) >= 0 && len(m)-1 != r.Degree(p)+r.Degree(q) {
			t.Fatal("degrees")
		}
		a, b, err := r.DivMod(p, q)
		if r.Degree(q) < 0 {
			if len(a)+len(b) != 0 || err != api.ErrZero {
				t.Fatal("by 0")
			}
			continue
		}
		aq, _ := r.Mul(a, q)
		if err != nil || len(b) > r.Degree(q) || !tidy(r, a) || !tidy(r, b) || !slices.Equal(r.Add(aq, b), r.Trim(p)) {
			t.Fatal("DivMod", p, q, a, b)
		}
	}
}

func TestRoots(t *testing.T) {
	rnd := rand.New(rand.NewSource(2))
	for n := range 300 {
		r := ring(t, 3+n%5)
		l := some(rnd, rnd.Intn(7))
		p, err := r.FromRoots(l)
		if err != nil || len(p) != len(l)+1 || p[len(l)] != 1 {
			t.Fatal(l, p)
		}
		count := map[int]int{}
		for _, a := range l {
			count[r.element(a)]++
		}
		roots, twice := r.Roots(p), r.Roots(r.Derive(p))
		if len(roots) != len(count) || !slices.IsSorted(roots) {
			t.Fatal(l, roots)
		}
		for _, a := range roots {
			if count[a] == 0 || len(r.Derive(p)) > 0 && slices.Contains(twice, a) != (count[a] > 1) {
				t.Fatal(l, a)
			}
		}
	}
	r := ring(t, 3)
	if len(r.Roots(nil)) != 0 || len(r.Roots([]int{0, 8})) != 0 || len(r.Roots([]int{5})) != 0 {
		t.Error("of constants")
	}
	if p, err := r.FromRoots(nil); !slices.Equal(p, []int{1}) || err != nil {
		t.Error("of none")
	}
	every, _ := r.FromRoots([]int{0, 1, 2, 3, 4, 5, 6, 7})
	if !slices.Equal(r.Roots(every), []int{0, 1, 2, 3, 4, 5, 6, 7}) || !slices.Equal(every, []int{0, 1, 0, 0, 0, 0, 0, 0, 1}) {
		t.Error("of all")
	}
}

func TestDerive(t *testing.T) {
	r := ring(t, 5)
	if len(r.Derive(nil)) != 0 || len(r.Derive([]int{7})) != 0 || len(r.Derive([]int{7, 0, 9})) != 0 || !slices.Equal(r.Derive([]int{0, 33, 0, 0, 5}), []int{1}) {
		t.Error("Derive")
	}
}

func TestGcd(t *testing.T) {
	rnd := rand.New(rand.NewSource(3))
	for n := range 300 {
		r := ring(t, 3+n%5)
		p, q, u := some(rnd, rnd.Intn(8)), some(rnd, rnd.Intn(8)), some(rnd, 1+rnd.Intn(4))
		p, _ = r.Mul(p, u)
		q, _ = r.Mul(q, u)
		g := r.Gcd(p, q)
		if len(g) == 0 {
			if len(p)+len(q) != 0 {
				t.Fatal("0")
			}
			continue
		}
		if g[len(g)-1] != 1 || !tidy(r, g) {
			t.Fatal("not the one with 1 on top")
		}
		for _, x := range [][]int{p, q} {
			if _, rest, _ := r.DivMod(x, g); len(rest) != 0 {
				t.Fatal("no divisor")
			}
		}
		if _, rest, err := r.DivMod(g, u); err == nil && len(rest) != 0 {
			t.Fatal("a common one does not divide it")
		}
	}
	r := ring(t, 4)
	if len(r.Gcd(nil, []int{0})) != 0 || !slices.Equal(r.Gcd([]int{0, 2}, nil), []int{0, 1}) || !slices.Equal(r.Gcd(nil, []int{5}), []int{1}) {
		t.Error("of 0")
	}
}

func TestLong(t *testing.T) {
	r := ring(t, 3)
	p, q := make([]int, api.MaxDegree), make([]int, api.MaxDegree)
	p[api.MaxDegree-2], q[0] = 1, 2
	if s, err := r.Mul(p, q); len(s) != api.MaxDegree-1 || err != nil {
		t.Error("as long as may be")
	}
	q[1] = 1
	if s, err := r.Mul(p, q); len(s) != 0 || err != api.ErrLong {
		t.Error("too long")
	}
	l := make([]int, api.MaxDegree)
	if s, err := r.FromRoots(l); len(s) != api.MaxDegree+1 || err != nil {
		t.Error("many roots")
	}
	if s, err := r.FromRoots(append(l, 1)); len(s) != 0 || err != api.ErrLong {
		t.Error("too many roots")
	}
}

// TestMemory: nothing handed in is changed, or handed out.
func TestMemory(t *testing.T) {
	r := ring(t, 4)
	p, q := []int{3, 5, 9, 0, 77}[:4], []int{2, 1, 77}[:2]
	a, _ := r.Mul(p, q)
	b, c, _ := r.DivMod(p, q)
	d, e, _ := r.DivMod(q, p)
	f, _ := r.FromRoots(p)
	for _, l := range [][]int{a, b, c, d, e, f, r.Trim(p), r.Add(p, q), r.Add(q, nil), r.Scale(p, 1), r.Derive(p), r.Roots(p), r.Gcd(p, nil), r.Gcd(p, q)} {
		for i := range l {
			l[i] = 99
		}
		_ = append(l, 98)
	}
	if !slices.Equal(p[:5], []int{3, 5, 9, 0, 77}) || !slices.Equal(q[:3], []int{2, 1, 77}) {
		t.Error(p, q)
	}
}
