package meta

import (
	"bytes"
	"math/bits"
	"math/rand"
	"testing"

	"shale/api"
	"shale/crc"
)

func some(r *rand.Rand) api.Meta {
	n := func() int { return r.Intn(api.MaxNum+1) >> r.Intn(31) }
	return api.Meta{Kind: 1 + r.Intn(6), Key: n(), Seq: n(), Stamp: n(), Batch: n(), Floor: n()}
}

func TestExamples(t *testing.T) {
	b, err := Bytes(api.Meta{Kind: 2, Key: 7, Seq: 9, Stamp: 9}, []byte{1, 2, 3})
	if err != nil || len(b) != 32 || !bytes.Equal(b[:24], []byte{2, 0, 0, 0, 7, 0, 0, 0, 9, 0, 0, 0, 9, 0, 0, 0, 0, 0, 0, 0, 0, 0, 0, 0}) {
		t.Error(b)
	}
	for i := range 4 {
		if b[24+i] != byte(crc.Of([]byte{1, 2, 3})>>(8*i)) || b[28+i] != byte(crc.Of(b[:28])>>(8*i)) {
			t.Error("the sums")
		}
	}
	if m, err := Open(b, []byte{1, 2, 4}); m != (api.Meta{}) || err != api.ErrRecord {
		t.Error("other data")
	}
	if !Newer(api.Meta{Seq: 5, Stamp: 3}, api.Meta{Seq: 5, Stamp: 4}) {
		t.Error("Newer")
	}
}

func TestMay(t *testing.T) {
	good := api.Meta{Kind: 1, Key: api.MaxNum, Seq: api.MaxNum, Stamp: api.MaxNum, Batch: api.MaxNum, Floor: api.MaxNum}
	if !May(good) || !May(api.Meta{Kind: 6}) {
		t.Error("the edges")
	}
	for _, n := range []int{-1, api.MaxNum + 1, 1<<63 - 1, -1 << 63} {
		for i, field := range fields() {
			r := record(good)
			*field(&r) = n
			if May(api.Meta(r)) {
				t.Error(i, n)
			}
			if b, err := Bytes(api.Meta(r), nil); len(b) != 0 || err != api.ErrRecord {
				t.Error("Bytes", i, n)
			}
		}
	}
	for _, k := range []int{0, 7, -1} {
		if May(api.Meta{Kind: k}) {
			t.Error("Kind", k)
		}
	}
}

func TestRound(t *testing.T) {
	r := rand.New(rand.NewSource(1))
	for range 60 {
		m, data := some(r), make([]byte, r.Intn(40))
		r.Read(data)
		b, err := Bytes(m, data)
		if err != nil {
			t.Fatal(m)
		}
		if n, err := Open(b, data); n != m || err != nil {
			t.Fatal(m, n)
		}
		zeros := 0
		for _, c := range b[:24] {
			zeros += bits.OnesCount8(^c)
		}
		if zeros < 37 {
			t.Fatal("too few bits are 0", m)
		}
		for i := range 8 * len(b) {
			b[i/8] ^= 1 << (i % 8)
			if n, err := Open(b, data); n != (api.Meta{}) || err != api.ErrRecord {
				t.Fatal("a bit of the record", i)
			}
			b[i/8] ^= 1 << (i % 8)
		}
		for i := range 8 * len(data) {
			data[i/8] ^= 1 << (i % 8)
			if _, err := Open(b, data); err != api.ErrRecord {
				t.Fatal("a bit of the data", i)
			}
			data[i/8] ^= 1 << (i % 8)
		}
		if _, err := Open(b[:31], data); err != api.ErrRecord {
			t.Fatal("too short")
		}
		if _, err := Open(append(bytes.Clone(b), 0), data); err != api.ErrRecord {
			t.Fatal("too long")
		}
	}
	if _, err := Open(nil, nil); err != api.ErrRecord {
		t.Error("nothing")
	}
}

// TestForged: bytes whose sums are right, but whose record may not be.
func TestForged(t *testing.T) {
	for i, n := range []int{0, 1 << 31, api.MaxNum + 1, 1<<32 - 1, api.MaxNum + 5, 1 << 31} {
		b, _ := Bytes(api.Meta{Kind: 3}, []byte{4})
		put(b[4*i:], n)
		put(b[28:], crc.Of(b[:28]))
		if m, err := Open(b, []byte{4}); m != (api.Meta{}) || err != api.ErrRecord {
			t.Error(i, n)
		}
	}
}

func TestNewerAlive(t *testing.T) {
	for _, x := range []struct {
		a, b api.Meta
		want bool
	}{{api.Meta{Seq: 2, Stamp: 9}, api.Meta{Seq: 1, Stamp: 1}, true}, {api.Meta{Seq: 1}, api.Meta{Seq: 2}, false}, {api.Meta{Seq: 1, Stamp: 4}, api.Meta{Seq: 1, Stamp: 4}, false}, {api.Meta{Seq: 1, Stamp: 5}, api.Meta{Seq: 1, Stamp: 4}, false}} {
		if Newer(x.a, x.b) != x.want {
			t.Error(x)
		}
	}
	for _, x := range []struct {
		batch, floor int
		want         bool
	}{{0, 0, true}, {1, 0, false}, {3, 3, true}, {4, 3, false}, {0, -5, true}, {2, 9, true}} {
		if Alive(api.Meta{Batch: x.batch}, x.floor) != x.want {
			t.Error(x)
		}
	}
}

func TestMemory(t *testing.T) {
	data := []byte{1, 2, 3, 9}[:3]
	b, _ := Bytes(api.Meta{Kind: 2}, data)
	c, _ := Bytes(api.Meta{Kind: 2}, data)
	b[0] = 9
	_ = append(b, 9)
	if c[0] != 2 || !bytes.Equal(data[:4], []byte{1, 2, 3, 9}) {
		t.Error("memory")
	}
}
