package binpoly

import (
	"bytes"
	"math/rand"
	"slices"
	"testing"

	"shale/api"
)

func must(t *testing.T, exponents ...int) Poly {
	t.Helper()
	p, err := Of(exponents...)
	if err != nil {
		t.Fatal(err)
	}
	return p
}

// some is a polynomial of at most that degree, with zero bytes at its end now and then.
func some(r *rand.Rand, degree int) Poly {
	p := make(Poly, degree/8+1, degree/8+9)
	r.Read(p)
	p[degree/8] &= 1<<(degree%8+1) - 1
	for i := range p[:cap(p)][len(p):] {
		p[:cap(p)][len(p)+i] = 0xEE
	}
	return append(p, make([]byte, r.Intn(3))...)
}

// slow is the product, bit by bit.
func slow(p, q Poly) Poly {
	r := make(Poly, len(p)+len(q)+1)
	for i := range 8 * len(p) {
		for j := range 8 * len(q) {
			r[(i+j)/8] ^= byte(p.Bit(i)&q.Bit(j)) << ((i + j) % 8)
		}
	}
	return r
}

func tidy(p Poly) bool { return len(p) == 0 || p[len(p)-1] != 0 }

func TestExamples(t *testing.T) {
	p := must(t, 4, 1, 0)
	if !bytes.Equal(p, []byte{0x13}) || p.Degree() != 4 || !slices.Equal(p.Exponents(), []int{4, 1, 0}) || !p.Irreducible() {
		t.Error("Of")
	}
	q, err := must(t, 1, 0).Mul(must(t, 1, 0))
	if !Same(q, must(t, 2, 0)) || err != nil || q.Irreducible() {
		t.Error("Mul")
	}
	a, b, err := must(t, 5).DivMod(must(t, 2, 0))
	if !Same(a, must(t, 3, 1)) || !Same(b, must(t, 1)) || err != nil {
		t.Error("DivMod")
	}
	s, err := must(t, 3).Shift(-2)
	if !Same(s, must(t, 1)) || err != nil {
		t.Error("Shift")
	}
	if p, err := Of(-1); len(p) != 0 || err != api.ErrNumber {
		t.Error("Of(-1)")
	}
	if a, b, err := must(t, 1).DivMod(Poly{0, 0}); len(a) != 0 || len(b) != 0 || err != api.ErrZero {
		t.Error("DivMod(0)")
	}
}

func TestOf(t *testing.T) {
	if p := must(t, 9, 2, 9, 2, 2); !bytes.Equal(p, []byte{4}) {
		t.Error(p)
	}
	if len(must(t)) != 0 || len(must(t, 8, 8)) != 0 || must(t, api.MaxDegree).Degree() != api.MaxDegree {
		t.Error("edges")
	}
	for _, e := range []int{api.MaxDegree + 1, -1, 1<<63 - 1, -1 << 63} {
		if p, err := Of(3, e); len(p) != 0 || err != api.ErrNumber {
			t.Error(e)
		}
	}
}

func TestBits(t *testing.T) {
	p := Poly{1, 0x82, 0}
	for i := -20; i < 60; i++ {
		want := 0
		if i == 0 || i == 9 || i == 15 {
			want = 1
		}
		if p.Bit(i) != want {
			t.Error(i)
		}
	}
	if p.Bit(1<<63-1) != 0 || p.Bit(-1<<63) != 0 || p.Degree() != 15 || Poly(nil).Degree() != -1 || (Poly{0}).Degree() != -1 {
		t.Error("far off, Degree")
	}
	if !slices.Equal(p.Exponents(), []int{15, 9, 0}) || len(Poly{0, 0}.Exponents()) != 0 {
		t.Error("Exponents")
	}
	if p.Eval(0) != 1 || p.Eval(1) != 1 || p.Eval(-2) != 1 || (Poly{6}).Eval(7) != 0 || (Poly{6}).Eval(8) != 0 || (Poly{7, 3}).Eval(-1) != 1 {
		t.Error("Eval")
	}
}

func TestRing(t *testing.T) {
	r := rand.New(rand.NewSource(1))
	for range 400 {
		p, q, u := some(r, r.Intn(90)), some(r, r.Intn(90)), some(r, r.Intn(40))
		pq, err := p.Mul(q)
		if err != nil || !Same(pq, slow(p, q)) || !tidy(pq) {
			t.Fatal("Mul", p, q, pq)
		}
		if p.Degree() >= 0 && q.Degree() >= 0 && pq.Degree() != p.Degree()+q.Degree() {
			t.Fatal("degrees")
		}
		left, _ := p.Add(q).Mul(u)
		pu, _ := p.Mul(u)
		qu, _ := q.Mul(u)
		if !Same(left, pu.Add(qu)) || !tidy(p.Add(q)) || len(p.Add(p)) != 0 || !Same(p.Add(q), q.Add(p)) {
			t.Fatal("Add")
		}
		a, b, err := p.DivMod(u)
		if u.Degree() < 0 {
			continue
		}
		au, _ := a.Mul(u)
		if err != nil || b.Degree() >= u.Degree() || !Same(au.Add(b), p) || !tidy(a) || !tidy(b) {
			t.Fatal("DivMod", p, u, a, b)
		}
		if Same(p, p.Add(must(t, r.Intn(99)))) || !Same(p, append(bytes.Clone(p), 0)) {
			t.Fatal("Same")
		}
	}
}

func TestGcd(t *testing.T) {
	r := rand.New(rand.NewSource(2))
	for range 300 {
		p, q, u := some(r, r.Intn(50)), some(r, r.Intn(50)), some(r, r.Intn(20))
		p, _ = p.Mul(u)
		q, _ = q.Mul(u)
		g := p.Gcd(q)
		if len(g) == 0 {
			if len(p)+len(q) != 0 {
				t.Fatal("0")
			}
			continue
		}
		for _, x := range []Poly{p, q} {
			if _, rest, _ := x.DivMod(g); len(rest) != 0 {
				t.Fatal("no divisor of both")
			}
		}
		if _, rest, err := g.DivMod(u); err == nil && len(rest) != 0 {
			t.Fatal("a common divisor does not divide it")
		}
	}
	if len(Poly{0}.Gcd(nil)) != 0 || !Same(Poly{6, 0}.Gcd(nil), Poly{6}) || !Same(Poly(nil).Gcd(Poly{6}), Poly{6}) || !tidy(Poly{6, 0}.Gcd(nil)) {
		t.Error("of 0")
	}
}

func TestLong(t *testing.T) {
	p := must(t, api.MaxDegree)
	q, err := p.Mul(p)
	if q.Degree() != 2*api.MaxDegree || err != nil {
		t.Fatal("the longest")
	}
	if r, err := q.Mul(Poly{2}); len(r) != 0 || err != api.ErrLong {
		t.Error("Mul")
	}
	if r, err := q.Mul(Poly{0}); len(r) != 0 || err != nil {
		t.Error("times 0")
	}
	if r, err := q.Mul(Poly{1}); !Same(r, q) || err != nil {
		t.Error("times 1")
	}
	if r, err := p.Shift(api.MaxDegree); !Same(r, q) || err != nil {
		t.Error("Shift")
	}
	for _, n := range []int{api.MaxDegree + 1, 1<<63 - 1} {
		if r, err := p.Shift(n); len(r) != 0 || err != api.ErrLong {
			t.Error("Shift", n)
		}
		if r, err := (Poly{0}).Shift(n); len(r) != 0 || err != nil {
			t.Error("Shift of 0", n)
		}
	}
	a, b, err := q.DivMod(must(t, 2000, 3))
	if back, _ := a.Mul(must(t, 2000, 3)); err != nil || !Same(back.Add(b), q) {
		t.Error("DivMod")
	}
}

func TestShift(t *testing.T) {
	r := rand.New(rand.NewSource(3))
	for range 500 {
		p := some(r, r.Intn(60))
		n := r.Intn(160) - 80
		q, err := p.Shift(n)
		if err != nil || !tidy(q) {
			t.Fatal(p, n)
		}
		for i := range 200 {
			want := p.Bit(i - n)
			if q.Bit(i) != want {
				t.Fatal(p, n, i)
			}
		}
	}
	if q, err := (Poly{255}).Shift(-1 << 63); len(q) != 0 || err != nil {
		t.Error("far down")
	}
}

func TestIrreducible(t *testing.T) {
	for w := range 1 << 12 {
		p := Poly{byte(w), byte(w >> 8)}
		want := p.Degree() >= 1
		for d := 2; want && d < w; d++ {
			q := Poly{byte(d), byte(d >> 8)}
			if q.Degree() >= p.Degree() {
				break
			}
			_, rest, _ := p.DivMod(q)
			want = len(rest) != 0
		}
		if p.Irreducible() != want {
			t.Fatal(w)
		}
	}
	for _, l := range [][]int{{32, 7, 3, 2, 0}, {31, 3, 0}, {1}, {1, 0}} {
		if !must(t, l...).Irreducible() {
			t.Error(l)
		}
	}
	a, _ := must(t, 16, 5, 3, 1, 0).Mul(must(t, 16, 5, 3, 1, 0))
	for _, p := range []Poly{a, must(t, 33, 10, 0), must(t, 127, 1, 0), nil, {1}, must(t, 32, 0)} {
		if p.Irreducible() {
			t.Error(p.Exponents())
		}
	}
}

// TestMemory: nothing handed in is changed, read behind its end, or handed out.
func TestMemory(t *testing.T) {
	p, q := Poly{0x13, 0x07}, Poly{0x05}
	room := append(Poly{0x13, 0x07}, 0xFF, 0xFF)[:2]
	short := append(Poly{0x05}, 0xFF)[:1]
	for i, f := range []func(p, q Poly) []Poly{
		func(p, q Poly) []Poly { return []Poly{p.Add(q), p.Add(nil), p.Gcd(nil), p.Gcd(q)} },
		func(p, q Poly) []Poly { r, _ := p.Mul(q); return []Poly{r} },
		func(p, q Poly) []Poly { a, b, _ := p.DivMod(q); return []Poly{a, b} },
		func(p, q Poly) []Poly { a, b, _ := q.DivMod(p); return []Poly{a, b} },
		func(p, q Poly) []Poly {
			a, _ := p.Shift(3)
			b, _ := p.Shift(-3)
			c, _ := p.Shift(0)
			return []Poly{a, b, c}
		},
	} {
		l, m := f(p, q), f(room, short)
		for k := range l {
			if !Same(l[k], m[k]) {
				t.Error("behind the end", i, k)
			}
			for j := range m[k] {
				m[k][j] ^= 0xFF
			}
			_ = append(m[k], 7, 7, 7)
		}
		if !bytes.Equal(room[:4], []byte{0x13, 0x07, 0xFF, 0xFF}) || !bytes.Equal(short[:2], []byte{0x05, 0xFF}) {
			t.Fatal("what was handed in is changed", i)
		}
	}
}
