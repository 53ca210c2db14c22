package scramble

import (
	"bytes"
	"testing"

	"shale/api"
)

// slow is the stream's bytes, by the words of the document.
func slow(seed, n int) ([]byte, int) {
	var bits [16]int
	if seed&0xFFFF == 0 {
		seed = 0xACE1
	}
	for i := range bits {
		bits[i] = seed >> i & 1
	}
	l := make([]byte, n)
	for i := range 8 * n {
		l[i/8] |= byte(bits[0]) << (i % 8)
		top := (bits[0] + bits[2] + bits[3] + bits[5]) % 2
		copy(bits[:], bits[1:])
		bits[15] = top
	}
	state := 0
	for i, b := range bits {
		state |= b << i
	}
	return l, state
}

func TestExamples(t *testing.T) {
	if New(1).Next() != 1 || New(0).Next() != 225 {
		t.Error("Next")
	}
	if Seed(api.Place{Block: 1, Page: 2}) != 320 || Seed(api.Place{Block: -1}) != 1 {
		t.Error("Seed")
	}
	b := Mix(1, []byte{0, 0})
	s := New(1)
	s.Next()
	if len(b) != 2 || b[0] != 1 || int(b[1]) != s.Next() {
		t.Error("Mix")
	}
}

func TestStream(t *testing.T) {
	for _, seed := range []int{0, 1, 2, 0xACE1, 0x8000, 65535, 65536, 65537, -1, -65536, 1<<62 + 5, -1 << 63} {
		want, _ := slow(seed, 300)
		s := New(seed)
		for i, b := range want {
			if s.Next() != int(b) {
				t.Fatal(seed, i)
			}
		}
		if !bytes.Equal(Mix(seed, make([]byte, 300)), want) {
			t.Error("Mix", seed)
		}
		for _, n := range []int{0, 1, 2, 100, 300} {
			if _, state := slow(seed, n); Skip(seed, n) != state {
				t.Error("Skip", seed, n)
			}
		}
	}
}

func TestMix(t *testing.T) {
	b := make([]byte, 200, 210)
	for i := range b {
		b[i] = byte(i * i)
	}
	was := bytes.Clone(b)
	whole := Mix(77, b)
	if !bytes.Equal(Mix(77, whole), b) || bytes.Equal(whole, b) {
		t.Error("twice")
	}
	s := New(77)
	var l []byte
	for i := 0; i < len(b); i += 25 {
		l = append(l, s.Mix(b[i:i+25])...)
	}
	if !bytes.Equal(l, whole) {
		t.Error("pieces")
	}
	whole[0]++
	_ = append(whole, 1)
	if !bytes.Equal(b, was) || len(Mix(5, nil)) != 0 {
		t.Error("memory")
	}
}

// TestPeriod: the 16 bits are never 0, and come again behind 65535 steps, not ahead.
func TestPeriod(t *testing.T) {
	s := New(1)
	seen := make([]bool, 1<<16)
	for i := range 65535 {
		if s.state == 0 || seen[s.state] {
			t.Fatal(i)
		}
		seen[s.state] = true
		s.step()
	}
	if s.state != 1 {
		t.Error("it does not come again")
	}
}

func TestSkip(t *testing.T) {
	far := New(9)
	for range 1 << 20 {
		far.Next()
	}
	if Skip(9, 1<<20) != int(far.state) || Skip(9, 1<<20+1) != int(far.state) || Skip(9, 1<<63-1) != int(far.state) {
		t.Error("far")
	}
	if Skip(9, -1) != 9 || Skip(9, -1<<63) != 9 || Skip(0, 0) != 0xACE1 {
		t.Error("near")
	}
}

func TestSeed(t *testing.T) {
	for _, x := range []struct{ block, page, want int }{
		{0, 0, 1}, {3, -9, 772}, {255, 0, 0}, {255, 1, 31}, {-1 << 63, -1 << 63, 1},
		{api.MaxNum, 0, (1 + api.MaxNum*257) % 65536}, {1<<63 - 1, 5, (1 + api.MaxNum*257 + 155) % 65536}, {0, api.MaxNum + 1, (1 + api.MaxNum*31) % 65536},
	} {
		if Seed(api.Place{Block: x.block, Page: x.page}) != x.want {
			t.Error(x)
		}
	}
}
