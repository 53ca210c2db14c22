package locate

import (
	"math/rand"
	"slices"
	"testing"

	"shale/api"
	"shale/encode"
	"shale/field"
	"shale/fieldpoly"
	"shale/syndrome"
)

func of(t *testing.T, m int) *field.Field {
	t.Helper()
	f, err := field.New(m)
	if err != nil {
		t.Fatal(err)
	}
	return f
}

func some(r *rand.Rand, f *field.Field, n int) []int {
	l := make([]int, n)
	for i := range l {
		if r.Intn(3) > 0 {
			l[i] = r.Intn(f.Size())
		}
	}
	return l
}

func TestExamples(t *testing.T) {
	f := of(t, 4)
	for _, x := range []struct {
		s, want []int
		length  int
	}{{nil, []int{1}, 0}, {[]int{1, 1, 1, 1}, []int{1, 1}, 1}, {[]int{0, 0, 0}, []int{1}, 0}, {[]int{3, 5, 9, 2}, []int{1, 3, 2}, 2}, {[]int{0, 1}, []int{1, 0, 1}, 2}, {[]int{3 + 16, 5 - 64, 9, 2}, []int{1, 3, 2}, 2}} {
		if p, n := Locate(f, x.s); !slices.Equal(p, x.want) || n != x.length {
			t.Error(x.s, p, n)
		}
		p, n := Fast(f, x.s)
		if n != x.length || !proportional(f, p, x.want) {
			t.Error("Fast", x.s, p, n)
		}
	}
	if p, err := Of(f, []int{0, 1}); !slices.Equal(p, []int{1, 3, 2}) || err != nil {
		t.Error("Of")
	}
}

// proportional tells whether p is q times an element that is not 0.
func proportional(f *field.Field, p, q []int) bool {
	by, err := f.Div(p[0], q[0])
	return err == nil && by != 0 && slices.Equal(p, fieldpoly.New(f).Scale(q, by))
}

// TestShortest: Locate makes s, and nothing shorter does: by all polynomials of a small field.
func TestShortest(t *testing.T) {
	r := rand.New(rand.NewSource(1))
	f := of(t, 3)
	for range 300 {
		s := some(r, f, r.Intn(7))
		p, n := Locate(f, s)
		if !Makes(f, p, n, s) || p[0] != 1 || len(p)-1 > n || p[len(p)-1] == 0 {
			t.Fatal(s, p, n)
		}
		for short := 0; short < min(n, 4); short++ {
			for x := range 1 << (3 * short) {
				q := []int{1}
				for i := range short {
					q = append(q, x>>(3*i)&7)
				}
				if Makes(f, q, short, s) {
					t.Fatal(s, p, n, q)
				}
			}
		}
	}
}

func TestFast(t *testing.T) {
	r := rand.New(rand.NewSource(2))
	for m := 3; m < 12; m++ {
		f := of(t, m)
		for range 80 {
			s := some(r, f, r.Intn(100))
			p, n := Locate(f, s)
			q, k := Fast(f, s)
			if k != n || !proportional(f, q, p) {
				t.Fatal(s, p, q)
			}
			if len(s) <= 2*api.MaxT && !Makes(f, p, n, s) {
				t.Fatal("does not make", s)
			}
			for i := range s {
				s[i] |= r.Intn(9) << m
			}
			if q, k := Locate(f, s); k != n || !slices.Equal(p, q) {
				t.Fatal("the lowest bits")
			}
		}
	}
}

// TestLong: of more than 2 MaxT elements the first ones count.
func TestLong(t *testing.T) {
	r := rand.New(rand.NewSource(3))
	f := of(t, 8)
	s := some(r, f, 500)
	p, n := Locate(f, s[:2*api.MaxT])
	for _, k := range []int{2*api.MaxT + 1, 500} {
		q, l := Locate(f, s[:k])
		u, v := Fast(f, s[:k])
		if !slices.Equal(p, q) || l != n || v != n || !proportional(f, u, p) {
			t.Error(k)
		}
	}
}

func TestPlaces(t *testing.T) {
	r := rand.New(rand.NewSource(4))
	for _, x := range [][3]int{{5, 2, 2}, {6, 3, 4}, {8, 8, 20}, {10, 40, 30}, {14, 16, 1000}} {
		c, err := encode.New(x[0], x[1], x[2])
		if err != nil {
			t.Fatal(x, err)
		}
		for range 30 {
			at := r.Perm(c.Bits())[:r.Intn(c.T()+1)]
			s, _ := syndrome.Bits(c, at)
			p, n := Locate(c.Field(), s)
			want, err := Of(c.Field(), at)
			if n != len(at) || !slices.Equal(p, want) || err != nil {
				t.Fatal(at, p, want)
			}
			if !Makes(c.Field(), want, n, s) {
				t.Fatal("does not make")
			}
		}
	}
}

func TestOf(t *testing.T) {
	f := of(t, 6)
	if p, err := Of(f, nil); !slices.Equal(p, []int{1}) || err != nil {
		t.Error("of none")
	}
	if p, err := Of(f, make([]int, api.MaxT)); len(p) == 0 || err != nil {
		t.Error("as many as may be")
	}
	if p, err := Of(f, make([]int, api.MaxT+1)); len(p) != 0 || err != api.ErrLong {
		t.Error("too many")
	}
	a, _ := Of(f, []int{-1, 70, 1 << 62})
	b, _ := Of(f, []int{62, 7, 1 << 62 % 63})
	if !slices.Equal(a, b) {
		t.Error("any numbers")
	}
}

func TestMakes(t *testing.T) {
	f := of(t, 4)
	s := []int{3, 5, 9, 2}
	for _, x := range []struct {
		p      []int
		length int
		s      []int
		want   bool
	}{
		{[]int{1, 3, 2}, 2, s, true}, {[]int{2, 6, 4}, 2, s, true}, {[]int{17, 3 - 32, 2}, 2, s, true}, {[]int{1, 3, 2}, 1, s, false}, {[]int{1, 3, 2}, -1, s, false},
		{[]int{1, 3, 2}, 5, s, false}, {[]int{1}, 4, s, true}, {[]int{0, 1}, 4, s, false}, {[]int{16}, 4, s, false}, {nil, 0, nil, false}, {[]int{1}, 0, nil, true},
		{[]int{1}, 0, []int{0, 16}, true}, {[]int{1}, 0, []int{0, 1}, false}, {[]int{1, 3, 2, 9, 9}, 2, s, true}, {[]int{1, 3, 2, 0}, 3, s, true}, {[]int{1}, 1 << 62, s, false},
	} {
		if Makes(f, x.p, x.length, x.s) != x.want {
			t.Error(x)
		}
	}
}

func TestMemory(t *testing.T) {
	f := of(t, 4)
	s := []int{3, 5, 9, 2, 7}[:4]
	p, _ := Locate(f, s)
	q, _ := Fast(f, s)
	u, _ := Of(f, s)
	for _, l := range [][]int{p, q, u} {
		l[0] = 77
		_ = append(l, 77)
	}
	if !slices.Equal(s[:5], []int{3, 5, 9, 2, 7}) {
		t.Error(s)
	}
}
