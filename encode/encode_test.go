package encode

import (
	"bytes"
	"math/rand"
	"testing"

	"shale/api"
	"shale/binpoly"
	"shale/minimal"
)

func code(t *testing.T, m, n, bytes int) *Code {
	t.Helper()
	c, err := New(m, n, bytes)
	if err != nil {
		t.Fatal(m, n, bytes, err)
	}
	return c
}

// codes are some of all sizes, with degrees below 8, at 64, and above.
func codes(t *testing.T) []*Code {
	var l []*Code
	for _, x := range [][3]int{{4, 1, 1}, {5, 1, 2}, {5, 2, 2}, {5, 3, 2}, {6, 3, 4}, {7, 4, 5}, {8, 8, 20}, {9, 7, 20}, {10, 2, 48}, {13, 5, 90}, {14, 40, 2}, {14, 16, 1056}} {
		l = append(l, code(t, x[0], x[1], x[2]))
	}
	return l
}

func some(r *rand.Rand, n int) []byte {
	b := make([]byte, n)
	r.Read(b)
	return b
}

// word is data and parity as one polynomial.
func word(c *Code, data, parity []byte) binpoly.Poly {
	p := make(binpoly.Poly, c.Bits()/8+1)
	for i := range c.Bits() {
		bit := binpoly.Poly(parity).Bit(i)
		if i >= c.Degree() {
			bit = binpoly.Poly(data).Bit(i - c.Degree())
		}
		p[i/8] |= byte(bit) << (i % 8)
	}
	return p
}

func TestExamples(t *testing.T) {
	c := code(t, 5, 2, 2)
	if c.Degree() != 10 || c.Bits() != 26 || c.Parity() != 2 || c.T() != 2 || c.Data() != 2 || c.Field().M() != 5 {
		t.Error("the numbers")
	}
	for _, f := range []func([]byte) ([]byte, error){c.Serial, c.Fast} {
		if p, err := f([]byte{0, 0}); !bytes.Equal(p, []byte{0, 0}) || err != nil {
			t.Error("0 0", p)
		}
		if p, err := f([]byte{1, 0}); !bytes.Equal(p, []byte{105, 3}) || err != nil {
			t.Error("1 0", p)
		}
	}
	if code(t, 4, 1, 1).Degree() != 4 {
		t.Error("4 1 1")
	}
}

func TestNew(t *testing.T) {
	for _, x := range []struct {
		m, n, bytes int
		err         error
	}{
		{2, 0, 0, api.ErrField}, {15, 1, 1, api.ErrField}, {4, 0, 0, api.ErrNumber}, {4, 41, 0, api.ErrNumber}, {4, 8, 0, api.ErrCode},
		{4, 2, 0, api.ErrLong}, {4, 2, -1, api.ErrLong}, {4, 2, api.MaxBytes + 1, api.ErrLong}, {4, 2, 1 << 62, api.ErrLong},
		{4, 2, 1, api.ErrCode}, {3, 1, 1, api.ErrCode}, {14, 1, api.MaxBytes, api.ErrCode}, {5, 2, 3, api.ErrCode}, {14, 1, 2045, nil}, {14, 1, 2046, nil}, {14, 1, 2047, api.ErrCode},
	} {
		if c, err := New(x.m, x.n, x.bytes); err != x.err || (c == nil) != (err != nil) {
			t.Error(x, err)
		}
	}
	f := code(t, 6, 3, 4)
	g, _ := minimal.Generator(f.Field(), 3)
	if !binpoly.Same(f.Generator(), g) {
		t.Error("Generator")
	}
	f.Generator()[0] = 0
	if !binpoly.Same(f.Generator(), g) {
		t.Error("no copy")
	}
}

func TestParity(t *testing.T) {
	r := rand.New(rand.NewSource(1))
	for _, c := range codes(t) {
		for range 30 {
			a, b := some(r, c.Data()), some(r, c.Data())
			p, err := c.Serial(a)
			q, err2 := c.Fast(a)
			if err != nil || err2 != nil || !bytes.Equal(p, q) || len(p) != c.Parity() {
				t.Fatal(c.Field().M(), c.T(), p, q)
			}
			if _, rest, _ := word(c, a, p).DivMod(c.Generator()); len(rest) != 0 || binpoly.Poly(p).Degree() >= c.Degree() {
				t.Fatal("a rest", c.Field().M(), c.T())
			}
			pb, _ := c.Fast(b)
			for i := range a {
				b[i] ^= a[i]
			}
			sum, _ := c.Fast(b)
			for i := range p {
				if sum[i] != p[i]^pb[i] {
					t.Fatal("the xor")
				}
			}
			if z := minimal.Zeros(c.Field(), word(c, a, p), 2*c.T()); c.Bits() < 1000 && len(z) != 2*c.T() {
				t.Fatal("zeros", z)
			}
		}
	}
}

// TestFar: two right words differ in 2t + 1 bits at least.
func TestFar(t *testing.T) {
	for _, c := range []*Code{code(t, 5, 2, 2), code(t, 5, 3, 2), code(t, 5, 1, 2)} {
		for d := 1; d < 1<<16; d++ {
			data := []byte{byte(d), byte(d >> 8)}
			p, _ := c.Fast(data)
			if n := len(binpoly.Poly(append(data, p...)).Exponents()); n < 2*c.T()+1 {
				t.Fatal(c.T(), d, n)
			}
		}
	}
}

func TestRight(t *testing.T) {
	r := rand.New(rand.NewSource(2))
	for _, c := range codes(t) {
		a := some(r, c.Data())
		p, _ := c.Fast(a)
		if !c.Right(a, p) || c.Right(a[1:], p) || c.Right(a, p[1:]) || c.Right(append(bytes.Clone(a), 0), p) || c.Right(a, append(bytes.Clone(p), 0)) || c.Right(nil, nil) {
			t.Error("lengths")
		}
		for i := range 8 * len(p) {
			q := bytes.Clone(p)
			q[i/8] ^= 1 << (i % 8)
			if c.Right(a, q) {
				t.Error("bit", i)
			}
		}
	}
}

func TestFlip(t *testing.T) {
	r := rand.New(rand.NewSource(3))
	for _, c := range codes(t) {
		a, p := some(r, c.Data()), some(r, c.Parity())
		was := word(c, a, p)
		for range 50 {
			at := r.Intn(c.Bits())
			b, q, err := c.Flip(a, p, at)
			power := make(binpoly.Poly, at/8+1)
			power[at/8] = 1 << (at % 8)
			if err != nil || !binpoly.Same(word(c, b, q), was.Add(power)) {
				t.Fatal(at)
			}
			b[0]++
			q[0]++
			if !binpoly.Same(word(c, a, p), was) {
				t.Fatal("what was handed in is changed")
			}
		}
		for _, x := range []struct {
			a, p []byte
			at   int
			err  error
		}{{a[1:], p, -1, api.ErrLong}, {a, p[1:], 0, api.ErrLong}, {a, append(bytes.Clone(p), 0), 0, api.ErrLong}, {a, p, -1, api.ErrNumber}, {a, p, c.Bits(), api.ErrNumber}, {a, p, 1 << 62, api.ErrNumber}} {
			if b, q, err := c.Flip(x.a, x.p, x.at); len(b)+len(q) != 0 || err != x.err {
				t.Error(x.at, err)
			}
		}
	}
}

func TestLengths(t *testing.T) {
	c := code(t, 6, 3, 4)
	for _, n := range []int{0, 3, 5} {
		if p, err := c.Serial(make([]byte, n)); len(p) != 0 || err != api.ErrLong {
			t.Error("Serial", n)
		}
		if p, err := c.Fast(make([]byte, n)); len(p) != 0 || err != api.ErrLong {
			t.Error("Fast", n)
		}
	}
	p, _ := c.Fast([]byte{1, 2, 3, 4})
	q, _ := c.Fast([]byte{1, 2, 3, 4})
	p[0] ^= 255
	if !c.Right([]byte{1, 2, 3, 4}, q) {
		t.Error("memory that is shared")
	}
}
