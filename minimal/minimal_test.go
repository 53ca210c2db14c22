package minimal

import (
	"bytes"
	"slices"
	"testing"

	"shale/api"
	"shale/binpoly"
	"shale/field"
)

func of(t *testing.T, m int) *field.Field {
	t.Helper()
	f, err := field.New(m)
	if err != nil {
		t.Fatal(err)
	}
	return f
}

func TestExamples(t *testing.T) {
	for _, x := range []struct {
		i    int
		want []int
	}{{1, []int{1, 2, 4, 8}}, {5, []int{5, 10}}, {-1, []int{7, 11, 13, 14}}, {0, []int{0}}, {15, []int{0}}, {16, []int{1, 2, 4, 8}}} {
		if l, err := Coset(4, x.i); !slices.Equal(l, x.want) || err != nil {
			t.Error(x.i, l)
		}
	}
	f := of(t, 4)
	for i, want := range map[int]byte{1: 0x13, 3: 0x1F, 5: 0x7, 0: 3, -15: 3, 2: 0x13} {
		if p := Of(f, i); !bytes.Equal(p, []byte{want}) {
			t.Error(i, p)
		}
	}
	for n, want := range map[int]binpoly.Poly{1: {0x13}, 2: {0xD1, 1}, 3: {0x37, 5}} {
		g, err := Generator(f, n)
		d, err2 := Least(4, n)
		if !bytes.Equal(g, want) || err != nil || d != want.Degree() || err2 != nil {
			t.Error(n, g)
		}
	}
	if g, err := Generator(f, 8); len(g) != 0 || err != api.ErrCode {
		t.Error("8")
	}
}

func TestErrors(t *testing.T) {
	f := of(t, 4)
	for _, m := range []int{2, 15, -1, 1 << 40} {
		if l, err := Coset(m, 1); len(l) != 0 || err != api.ErrField {
			t.Error("Coset", m)
		}
		if l, err := Cosets(m); len(l) != 0 || err != api.ErrField {
			t.Error("Cosets", m)
		}
		if d, err := Least(m, 0); d != 0 || err != api.ErrField {
			t.Error("Least", m)
		}
	}
	for _, n := range []int{0, -1, api.MaxT + 1, 1 << 62} {
		if g, err := Generator(f, n); len(g) != 0 || err != api.ErrNumber {
			t.Error("Generator", n)
		}
		if d, err := Least(4, n); d != 0 || err != api.ErrNumber {
			t.Error("Least", n)
		}
	}
	for _, n := range []int{8, 40} {
		if d, err := Least(4, n); d != 0 || err != api.ErrCode {
			t.Error("Least", n)
		}
	}
}

func TestCosets(t *testing.T) {
	for m := api.MinM; m <= api.MaxM; m++ {
		l, err := Cosets(m)
		if err != nil {
			t.Fatal(m, err)
		}
		seen, last := make([]bool, 1<<m-1), -1
		for _, c := range l {
			if m%len(c) != 0 || !slices.IsSorted(c) || c[0] <= last {
				t.Fatal(m, c)
			}
			last = c[0]
			one, _ := Coset(m, c[len(c)-1]-5*(1<<m-1))
			if !slices.Equal(one, c) {
				t.Fatal(m, c)
			}
			for _, k := range c {
				if seen[k] {
					t.Fatal(m, k)
				}
				seen[k] = true
			}
			c[0] = -1
			_ = append(c, -1)
		}
		if slices.Contains(seen, false) {
			t.Error(m, "not all")
		}
	}
}

func TestMinimal(t *testing.T) {
	for m := 3; m <= 9; m++ {
		f := of(t, m)
		whole, _ := binpoly.Of(1<<m-1, 0)
		for i := range 1<<m - 1 {
			p := Of(f, i)
			c, _ := Coset(m, i)
			if _, rest, _ := whole.DivMod(p); p.Degree() != len(c) || !p.Irreducible() || len(rest) != 0 {
				t.Fatal(m, i, p)
			}
			z := Zeros(f, p, 1<<m)
			if i != 0 && !slices.Equal(z, c) || i == 0 && len(z) != 0 {
				t.Fatal(m, i, z)
			}
		}
	}
}

func TestGenerator(t *testing.T) {
	for m := api.MinM; m <= api.MaxM; m++ {
		f := of(t, m)
		for n := 1; n <= api.MaxT; n += 1 + n/4 {
			g, err := Generator(f, n)
			d, err2 := Least(m, n)
			if err != err2 {
				t.Fatal(m, n, err, err2)
			}
			if err != nil {
				continue
			}
			if g.Degree() != d || d > m*n || d >= 1<<m-1 {
				t.Fatal(m, n, d)
			}
			z := Zeros(f, g, 2*n)
			if len(z) != 2*n || z[0] != 1 || z[2*n-1] != 2*n {
				t.Fatal(m, n, z)
			}
		}
	}
}

func TestZeros(t *testing.T) {
	f := of(t, 3)
	if l := Zeros(f, nil, 99); !slices.Equal(l, []int{1, 2, 3, 4, 5, 6}) {
		t.Error("of 0", l)
	}
	if len(Zeros(f, nil, 0)) != 0 || len(Zeros(f, nil, -5)) != 0 || len(Zeros(f, binpoly.Poly{1}, 9)) != 0 || !slices.Equal(Zeros(f, nil, 2), []int{1, 2}) {
		t.Error("edges")
	}
	p := binpoly.Poly{0xB, 0, 0}
	if !slices.Equal(Zeros(f, p, 6), []int{1, 2, 4}) || !bytes.Equal(p, []byte{0xB, 0, 0}) {
		t.Error("with zero bytes")
	}
}
