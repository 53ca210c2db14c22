package syndrome

import (
	"bytes"
	"math/rand"
	"slices"
	"testing"

	"shale/api"
	"shale/encode"
)

func code(t *testing.T, m, n, bytes int) *encode.Code {
	t.Helper()
	c, err := encode.New(m, n, bytes)
	if err != nil {
		t.Fatal(m, n, bytes, err)
	}
	return c
}

func codes(t *testing.T) []*encode.Code {
	return []*encode.Code{code(t, 4, 1, 1), code(t, 5, 2, 2), code(t, 6, 3, 4), code(t, 8, 8, 20), code(t, 10, 2, 48), code(t, 14, 16, 1056)}
}

func some(r *rand.Rand, n int) []byte {
	b := make([]byte, n)
	r.Read(b)
	return b
}

// plain is the word's values, each by all of its bits.
func plain(c *encode.Code, data, parity []byte) []int {
	s := make([]int, 2*c.T())
	for i := range s {
		for p := range c.Bits() {
			bit := 0
			if p < c.Degree() {
				bit = int(parity[p/8]) >> (p % 8) & 1
			} else {
				bit = int(data[(p-c.Degree())/8]) >> ((p - c.Degree()) % 8) & 1
			}
			s[i] ^= bit * c.Field().Exp(p*(i+1))
		}
	}
	return s
}

func TestExamples(t *testing.T) {
	c := code(t, 5, 2, 2)
	for _, x := range []struct{ at, want []int }{{nil, []int{0, 0, 0, 0}}, {[]int{0}, []int{1, 1, 1, 1}}, {[]int{1}, []int{2, 4, 8, 16}}, {[]int{1, 0, 1}, []int{1, 1, 1, 1}}} {
		if s, err := Bits(c, x.at); !slices.Equal(s, x.want) || err != nil {
			t.Error(x.at, s)
		}
	}
	for _, p := range []int{26, -1, 1 << 62, -1 << 63} {
		if s, err := Bits(c, []int{3, p}); len(s) != 0 || err != api.ErrNumber {
			t.Error(p)
		}
	}
}

func TestOf(t *testing.T) {
	r := rand.New(rand.NewSource(1))
	for _, c := range codes(t) {
		for range 8 {
			a, p := some(r, c.Data()), some(r, c.Parity())
			s, err := Of(c, a, p)
			if err != nil || !slices.Equal(s, plain(c, a, p)) || !Fits(c.Field(), s) {
				t.Fatal(c.Bits(), s)
			}
			right, _ := c.Fast(a)
			s, _ = Of(c, a, right)
			if len(s) != 2*c.T() || !Clean(s) {
				t.Fatal("not clean", s)
			}
			for i := c.Degree(); i < 8*c.Parity(); i++ {
				right[i/8] ^= 1 << (i % 8)
			}
			if s, _ = Of(c, a, right); !Clean(s) {
				t.Fatal("the bits above the degree", s)
			}
		}
		a, p := make([]byte, c.Data()), make([]byte, c.Parity())
		for _, x := range [][2][]byte{{a[1:], p}, {a, p[1:]}, {append(a, 0), p}, {a, append(p, 0)}, {nil, nil}} {
			if s, err := Of(c, x[0], x[1]); len(s) != 0 || err != api.ErrLong {
				t.Error("lengths")
			}
		}
	}
}

func TestTurned(t *testing.T) {
	r := rand.New(rand.NewSource(2))
	for _, c := range codes(t) {
		a := some(r, c.Data())
		p, _ := c.Fast(a)
		for range 20 {
			at := r.Perm(c.Bits())[:1+r.Intn(2*c.T())]
			b, q := a, p
			for _, i := range at {
				b, q, _ = c.Flip(b, q, i)
			}
			s, _ := Of(c, b, q)
			want, err := Bits(c, at)
			if err != nil || !slices.Equal(s, want) || Clean(s) || !Fits(c.Field(), want) {
				t.Fatal(at, s, want)
			}
		}
	}
}

// TestUnlike: of two lists of at most t places that are not the same the values are not.
func TestUnlike(t *testing.T) {
	c := code(t, 5, 2, 2)
	seen := map[[4]int]bool{}
	for i := range c.Bits() {
		for j := range i + 1 {
			at := []int{i, j}
			if i == j {
				at = at[:1]
			}
			s, _ := Bits(c, at)
			if seen[[4]int(s)] {
				t.Fatal(at)
			}
			seen[[4]int(s)] = true
		}
	}
}

func TestAdd(t *testing.T) {
	for _, x := range []struct{ a, b, want []int }{{nil, nil, nil}, {[]int{5, 3}, []int{1}, []int{4, 3}}, {[]int{1}, []int{5, 3, -7}, []int{4, 3, -7}}, {nil, []int{9}, []int{9}}} {
		if s := Add(x.a, x.b); !slices.Equal(s, x.want) {
			t.Error(x, s)
		}
	}
	a := []int{1, 2, 3, 77}[:3]
	s := Add(a, nil)
	s[0] = 9
	_ = append(s, 9)
	if !slices.Equal(a[:4], []int{1, 2, 3, 77}) {
		t.Error("memory that is shared")
	}
}

func TestCleanFits(t *testing.T) {
	if !Clean(nil) || !Clean([]int{0, 0}) || Clean([]int{0, 32}) || Clean([]int{-1}) {
		t.Error("Clean")
	}
	f := code(t, 5, 2, 2).Field()
	for _, x := range []struct {
		s    []int
		want bool
	}{{nil, true}, {[]int{7}, true}, {[]int{2, 4}, true}, {[]int{2, 5}, false}, {[]int{34, 4 - 64}, true}, {[]int{2, 4, 9, 16}, true}, {[]int{2, 4, 9, 17}, false}, {[]int{2, 4, 3, 16, 0, 4}, false}, {[]int{2, 4, 3, 16, 0, 5}, true}} {
		if Fits(f, x.s) != x.want {
			t.Error(x)
		}
	}
}

func TestKept(t *testing.T) {
	c := code(t, 6, 3, 4)
	a, p := []byte{1, 2, 3, 4, 9}[:4], []byte{5, 6, 7, 9}[:3]
	s, _ := Of(c, a, p)
	u, _ := Of(c, a, p)
	s[0] ^= 1
	if s[0] == u[0] || !bytes.Equal(a[:5], []byte{1, 2, 3, 4, 9}) || !bytes.Equal(p[:4], []byte{5, 6, 7, 9}) {
		t.Error("memory")
	}
}
