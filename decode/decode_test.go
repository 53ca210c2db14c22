package decode

import (
	"bytes"
	"math/rand"
	"slices"
	"testing"

	"shale/api"
	"shale/encode"
)

func code(t *testing.T, m, n, bytes int) *encode.Code {
	t.Helper()
	c, err := encode.New(m, n, bytes)
	if err != nil {
		t.Fatal(m, n, bytes, err)
	}
	return c
}

func codes(t *testing.T) []*encode.Code {
	return []*encode.Code{code(t, 4, 1, 1), code(t, 5, 2, 2), code(t, 6, 3, 4), code(t, 8, 8, 20), code(t, 10, 2, 48), code(t, 11, 40, 100), code(t, 14, 16, 1056)}
}

func some(r *rand.Rand, n int) []byte {
	b := make([]byte, n)
	r.Read(b)
	return b
}

func turned(c *encode.Code, a, p []byte, at []int) ([]byte, []byte) {
	a, p = bytes.Clone(a), bytes.Clone(p)
	for _, i := range at {
		a, p, _ = c.Flip(a, p, i)
	}
	return a, p
}

func TestExamples(t *testing.T) {
	c := code(t, 5, 2, 2)
	d := New(c)
	w, _ := c.Serial([]byte{7, 9})
	if a, p, at, err := d.Decode([]byte{7, 9}, w); !bytes.Equal(a, []byte{7, 9}) || !bytes.Equal(p, w) || len(at) != 0 || err != nil {
		t.Error("right")
	}
	if a, p, at, err := d.Decode([]byte{6, 9}, w); !bytes.Equal(a, []byte{7, 9}) || !bytes.Equal(p, w) || !slices.Equal(at, []int{10}) || err != nil {
		t.Error("one", at)
	}
	x, y := turned(c, []byte{7, 9}, w, []int{25, 0})
	if a, p, at, err := d.Decode(x, y); !bytes.Equal(a, []byte{7, 9}) || !bytes.Equal(p, w) || !slices.Equal(at, []int{0, 25}) || err != nil {
		t.Error("two", at)
	}
	if d.Code() != c {
		t.Error("Code")
	}
}

func TestMends(t *testing.T) {
	r := rand.New(rand.NewSource(1))
	for _, c := range codes(t) {
		d := New(c)
		for range 40 {
			a := some(r, c.Data())
			w, _ := c.Fast(a)
			at := r.Perm(c.Bits())[:r.Intn(c.T()+1)]
			x, y := turned(c, a, w, at)
			for i := c.Degree(); i < 8*c.Parity(); i++ {
				y[i/8] ^= byte(r.Intn(2)) << (i % 8)
			}
			x0, y0 := bytes.Clone(x), bytes.Clone(y)
			slices.Sort(at)
			b, p, places, err := d.Decode(x, y)
			if err != nil || !bytes.Equal(a, b) || !bytes.Equal(w, p) || !slices.Equal(places, at) {
				t.Fatal(c.T(), at, places, err)
			}
			b[0]++
			p[0]++
			if !bytes.Equal(x, x0) || !bytes.Equal(y, y0) {
				t.Fatal("what was handed in is changed")
			}
		}
	}
}

// TestNearest: of whatever word: the right one within t bits, if there is one, else ErrMany.
func TestNearest(t *testing.T) {
	r := rand.New(rand.NewSource(2))
	for _, c := range []*encode.Code{code(t, 4, 1, 1), code(t, 5, 1, 2), code(t, 5, 2, 1), code(t, 5, 3, 1)} {
		d := New(c)
		var words [][2][]byte
		for x := range 1 << (8 * c.Data()) {
			a := []byte{byte(x), byte(x >> 8)}[:c.Data()]
			p, _ := c.Fast(a)
			words = append(words, [2][]byte{a, p})
		}
		for range 300 {
			x, y := some(r, c.Data()), some(r, c.Parity())
			if over := c.Degree() % 8; over != 0 {
				y[len(y)-1] &= 1<<over - 1
			}
			a, p, at, err := d.Decode(x, y)
			near := slices.IndexFunc(words, func(w [2][]byte) bool { return Distance(w[0], x)+Distance(w[1], y) <= c.T() })
			if near < 0 {
				if err != api.ErrMany || len(a)+len(p)+len(at) != 0 {
					t.Fatal("none is near", x, y)
				}
				continue
			}
			if err != nil || !bytes.Equal(a, words[near][0]) || !bytes.Equal(p, words[near][1]) || len(at) != Distance(a, x)+Distance(p, y) {
				t.Fatal(x, y, a, p)
			}
		}
	}
}

// TestBeyond: of more than t turned bits it is told, or it comes to another right word.
func TestBeyond(t *testing.T) {
	r := rand.New(rand.NewSource(3))
	told := 0
	for _, c := range codes(t) {
		d := New(c)
		for range 40 {
			a := some(r, c.Data())
			w, _ := c.Fast(a)
			x, y := turned(c, a, w, r.Perm(c.Bits())[:c.T()+1+r.Intn(c.T())])
			b, p, at, err := d.Decode(x, y)
			if err != nil {
				told++
				if err != api.ErrMany || len(b)+len(p)+len(at) != 0 {
					t.Fatal(err)
				}
				continue
			}
			if bytes.Equal(a, b) || !c.Right(b, p) || Distance(b, x)+Distance(p, y) != len(at) || len(at) > c.T() {
				t.Fatal(at)
			}
		}
	}
	if told == 0 {
		t.Error("never told")
	}
}

func TestLong(t *testing.T) {
	d := New(code(t, 6, 3, 4))
	for _, x := range [][2]int{{3, 3}, {5, 3}, {4, 2}, {4, 4}, {0, 0}} {
		if a, p, at, err := d.Decode(make([]byte, x[0]), make([]byte, x[1])); len(a)+len(p)+len(at) != 0 || err != api.ErrLong {
			t.Error(x, err)
		}
	}
}

func TestDistance(t *testing.T) {
	for _, x := range []struct {
		a, b []byte
		n    int
	}{{nil, nil, 0}, {[]byte{1, 2}, []byte{1, 2}, 0}, {[]byte{255}, []byte{0}, 8}, {[]byte{1, 2, 0}, []byte{3}, 17}, {nil, []byte{0, 0}, 16}} {
		if Distance(x.a, x.b) != x.n || Distance(x.b, x.a) != x.n {
			t.Error(x)
		}
	}
}
