package crc

import (
	"bytes"
	"hash/crc32"
	"math/rand"
	"testing"
)

func some(r *rand.Rand, n int) []byte {
	b := make([]byte, n)
	r.Read(b)
	return b
}

func TestOf(t *testing.T) {
	if Of([]byte("123456789")) != 3421780262 || Of(nil) != 0 || Of([]byte{}) != 0 {
		t.Error("the examples")
	}
	r := rand.New(rand.NewSource(1))
	for n := range 200 {
		b := some(r, n)
		if Of(b) != int(crc32.ChecksumIEEE(b)) {
			t.Error(n)
		}
	}
}

func TestPieces(t *testing.T) {
	r := rand.New(rand.NewSource(2))
	b := some(r, 500)
	s := New()
	for i := 0; i < len(b); {
		if s.Value() != Of(b[:i]) || s.Value() != Of(b[:i]) {
			t.Fatal(i)
		}
		n := min(r.Intn(9), len(b)-i)
		if n == 1 {
			s.Byte(b[i])
		} else {
			s.Write(b[i : i+n])
		}
		i += n
	}
	s.Write(nil)
	if s.Value() != Of(b) || New().Value() != 0 {
		t.Error("the whole")
	}
}

func TestJoin(t *testing.T) {
	if Join(Of([]byte("1234")), Of([]byte("56789")), 5) != 3421780262 {
		t.Error("the example")
	}
	r := rand.New(rand.NewSource(3))
	b := some(r, 300)
	for n := range len(b) + 1 {
		x, y := Of(b[:n]), Of(b[n:])
		if Join(x, y, len(b)-n) != Of(b) || Join(x|-1<<32, y|1<<50, len(b)-n) != Of(b) {
			t.Error(n)
		}
	}
	long := some(r, 1<<20)
	if Join(Of(b), Of(long), 1<<20) != Of(append(bytes.Clone(b), long...)) {
		t.Error("the longest")
	}
	for _, n := range []int{-1, 1<<20 + 1, -1 << 63, 1<<63 - 1} {
		if Join(5, 7, n) != 0 {
			t.Error(n)
		}
	}
	if Join(5, 0, 0) != 5 {
		t.Error("nothing behind")
	}
}

func TestFlipped(t *testing.T) {
	if Flipped(1, 0) != Of([]byte{0})^Of([]byte{1}) {
		t.Error("the example")
	}
	r := rand.New(rand.NewSource(4))
	for n := 1; n < 40; n++ {
		b := some(r, n)
		want, c := Of(b), bytes.Clone(b)
		for range 5 {
			bit := r.Intn(8 * n)
			c[bit/8] ^= 1 << (bit % 8)
			want ^= Flipped(n, bit)
			if Of(c) != want {
				t.Error(n, bit)
			}
		}
	}
	b := make([]byte, 1<<20)
	none := Of(b)
	b[1<<20-1] = 128
	if Of(b)^none != Flipped(1<<20, 1<<23-1) {
		t.Error("the last of the longest")
	}
	for _, x := range [][2]int{{0, 0}, {-1, 0}, {1<<20 + 1, 0}, {3, 24}, {3, -1}, {3, 1<<63 - 1}, {-1 << 63, 5}} {
		if Flipped(x[0], x[1]) != 0 {
			t.Error(x)
		}
	}
}

// TestNear: bytes that differ within 32 neighbouring bits have unlike sums.
func TestNear(t *testing.T) {
	r := rand.New(rand.NewSource(5))
	for range 5000 {
		n := 8 + r.Intn(30)
		at := r.Intn(8*n - 32)
		change := 0
		for _, k := range r.Perm(32)[:1+r.Intn(32)] {
			change ^= Flipped(n, at+k)
		}
		if change == 0 {
			t.Fatal(n, at)
		}
	}
}

func TestKept(t *testing.T) {
	b := []byte{1, 2, 3, 9}
	s := New()
	s.Write(b[:3])
	was := s.Value()
	b[0] = 7
	if s.Value() != was || !bytes.Equal(b, []byte{7, 2, 3, 9}) {
		t.Error("the bytes are kept, or changed")
	}
}
