package field

import (
	"math/rand"
	"testing"

	"shale/api"
)

// plain is the product, bit by bit.
func plain(a, b, m int) int {
	p := 0
	for i := m - 1; i >= 0; i-- {
		p <<= 1
		if p>>m != 0 {
			p ^= Poly(m)
		}
		if b>>i&1 != 0 {
			p ^= a
		}
	}
	return p
}

func all(t *testing.T) []*Field {
	var l []*Field
	for m := api.MinM; m <= api.MaxM; m++ {
		f, err := New(m)
		if err != nil || f.M() != m || f.Size() != 1<<m {
			t.Fatal(m, err)
		}
		l = append(l, f)
	}
	return l
}

func TestNew(t *testing.T) {
	all(t)
	for _, m := range []int{2, 0, -1, 15, 1 << 62, -1 << 63} {
		if f, err := New(m); f != nil || err != api.ErrField || Poly(m) != 0 {
			t.Error(m)
		}
	}
	want := []int{0xB, 0x13, 0x25, 0x43, 0x89, 0x11D, 0x211, 0x409, 0x805, 0x1053, 0x201B, 0x4443}
	for i, p := range want {
		if Poly(i+3) != p {
			t.Error(i)
		}
	}
}

func TestExamples(t *testing.T) {
	f, _ := New(4)
	inv, _ := f.Inv(2)
	log, _ := f.Log(3)
	if f.Mul(8, 2) != 3 || f.Mul(9, 9) != 13 || inv != 9 || f.Exp(4) != 3 || log != 4 {
		t.Error("products")
	}
	order, _ := f.Order(8)
	if f.Pow(2, -1) != 9 || f.Pow(0, 0) != 1 || f.Pow(0, -3) != 0 || order != 5 || f.Trace(8) != 1 {
		t.Error("powers")
	}
	if n, err := f.Inv(0); n != 0 || err != api.ErrZero {
		t.Error("Inv(0)")
	}
	if n, err := f.Inv(16); n != 0 || err != api.ErrZero {
		t.Error("Inv(16)")
	}
}

func TestZero(t *testing.T) {
	for _, f := range all(t) {
		z := f.Size() * 5
		if n, err := f.Div(3, z); n != 0 || err != api.ErrZero {
			t.Error("Div")
		}
		if n, err := f.Log(z); n != 0 || err != api.ErrZero {
			t.Error("Log")
		}
		if n, err := f.Order(z); n != 0 || err != api.ErrZero {
			t.Error("Order")
		}
		if f.Pow(z, 0) != 1 || f.Pow(z, 5) != 0 || f.Pow(z, -1<<63) != 0 || f.Trace(z) != 0 {
			t.Error("Pow, Trace")
		}
	}
}

func TestIs(t *testing.T) {
	for _, f := range all(t) {
		if !f.Is(0) || !f.Is(f.Size()-1) || f.Is(f.Size()) || f.Is(-1) {
			t.Error(f.M())
		}
	}
}

func TestLaws(t *testing.T) {
	r := rand.New(rand.NewSource(1))
	for _, f := range all(t) {
		for range 3000 {
			a, b, c := r.Intn(f.Size()), r.Intn(f.Size()), r.Intn(f.Size())
			if f.Mul(a, b) != plain(a, b, f.M()) || f.Add(a, b) != a^b {
				t.Fatal("the product, or the sum", f.M(), a, b)
			}
			if f.Mul(a, f.Mul(b, c)) != f.Mul(f.Mul(a, b), c) || f.Mul(a, b^c) != f.Mul(a, b)^f.Mul(a, c) {
				t.Fatal("the laws", f.M(), a, b, c)
			}
			if f.Pow(a, f.Size()) != a || f.Mul(a^b, a^b) != f.Mul(a, a)^f.Mul(b, b) {
				t.Fatal("the squares", f.M(), a, b)
			}
			q, err := f.Div(a, b)
			if b != 0 && (err != nil || f.Mul(q, b) != a) {
				t.Fatal("Div", f.M(), a, b)
			}
			n := r.Intn(90000) - 45000
			if a != 0 && f.Mul(f.Pow(a, n), f.Pow(a, -n)) != 1 || f.Exp(n) != f.Pow(2, n) {
				t.Fatal("Pow", f.M(), a, n)
			}
			x, y := r.Int()<<f.M()|a, -1<<62|r.Intn(1000)<<f.M()|b
			if f.Mul(x, y) != f.Mul(a, b) || f.Add(x, y) != a^b || f.Trace(x) != f.Trace(a) || f.Pow(x, 5) != f.Pow(a, 5) {
				t.Fatal("the lowest bits", f.M(), x, y)
			}
		}
	}
}

func TestLogs(t *testing.T) {
	for _, f := range all(t) {
		seen := map[int]bool{}
		for n := range f.Size() - 1 {
			a := f.Exp(n)
			if l, err := f.Log(a); l != n || err != nil || seen[a] || a == 0 || !f.Is(a) {
				t.Fatal(f.M(), n)
			}
			seen[a] = true
			if f.Exp(n-5*(f.Size()-1)) != a {
				t.Fatal("below 0", f.M(), n)
			}
			inv, err := f.Inv(a)
			if f.Mul(a, inv) != 1 || err != nil {
				t.Fatal("Inv", f.M(), a)
			}
		}
		for _, n := range []int{1<<63 - 1, -1 << 63} {
			k := n % (f.Size() - 1)
			if f.Exp(n) != f.Exp(k) || f.Pow(3, n) != f.Pow(3, k) {
				t.Error("far off", f.M(), n)
			}
		}
	}
}

func TestOrder(t *testing.T) {
	for _, f := range all(t)[:6] {
		for a := 1; a < f.Size(); a++ {
			n, p := 1, a
			for ; p != 1; n++ {
				p = f.Mul(p, a)
			}
			if o, err := f.Order(a); o != n || err != nil || (f.Size()-1)%n != 0 {
				t.Fatal(f.M(), a)
			}
		}
	}
}

func TestTrace(t *testing.T) {
	for _, f := range all(t) {
		ones := 0
		for a := range f.Size() {
			x := f.Trace(a)
			if x != 0 && x != 1 || f.Trace(f.Mul(a, a)) != x || f.Trace(a^3) != x^f.Trace(3) {
				t.Fatal(f.M(), a)
			}
			ones += x
		}
		if ones != f.Size()/2 {
			t.Error(f.M(), ones)
		}
	}
}

func TestSame(t *testing.T) {
	f, _ := New(7)
	g, _ := New(7)
	for a := range 128 {
		for b := range 128 {
			if f.Mul(a, b) != g.Mul(a, b) {
				t.Fatal(a, b)
			}
		}
	}
}
