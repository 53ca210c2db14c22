package checkpoint

import (
	"bytes"
	"math/rand"
	"reflect"
	"slices"
	"testing"

	"shale/api"
	"shale/crc"
	"shale/scan"
	"shale/table"
)

func at(block, page int) api.Place { return api.Place{Block: block, Page: page} }

func slot(key int, p api.Place, m api.Meta) table.Slot {
	return table.Slot{Key: key, Place: p, Meta: m}
}

func some(r *rand.Rand) Point {
	n := func() int { return r.Intn(api.MaxNum+1) >> r.Intn(31) }
	p := Point{Seq: n(), Stamp: n(), Batch: n(), Floor: n()}
	for b := range api.MaxBlocks {
		if r.Intn(9) > 0 {
			continue
		}
		p.Blocks = append(p.Blocks, Block{b, n()})
		for i := range api.MaxPages {
			if r.Intn(9) == 0 {
				m := api.Meta{Kind: 1 + r.Intn(6), Key: n(), Seq: n(), Stamp: n(), Batch: n(), Floor: n()}
				p.Slots = append(p.Slots, table.Slot{Key: n(), Place: at(b, i), Meta: m})
			}
		}
	}
	return p
}

func good() Point {
	m := api.Meta{Kind: 2, Key: 3, Seq: 4, Stamp: 5, Batch: 6, Floor: 7}
	return Point{1, 2, 3, 4, []Block{{0, 5}, {63, 6}}, []table.Slot{slot(1, at(0, 0), m), slot(1, at(0, 63), m), slot(2, at(63, 1), m)}}
}

func TestExamples(t *testing.T) {
	b, err := Bytes(Point{})
	sum := crc.Of(make([]byte, 24))
	if err != nil || !bytes.Equal(b, append(make([]byte, 24), byte(sum), byte(sum>>8), byte(sum>>16), byte(sum>>24))) {
		t.Error(b, err)
	}
	l, err := Pieces(b, 20, 7)
	if len(l) != 4 || err != nil {
		t.Fatal(l, err)
	}
	for i, p := range l {
		want := append([]byte{7, 0, 0, 0, byte(i), 0, 0, 0, 28, 0, 0, 0}, b[8*i:min(28, 8*i+8)]...)
		if !bytes.Equal(p, append(want, make([]byte, 20-len(want))...)) {
			t.Error(i, p)
		}
	}
}

func TestLayout(t *testing.T) {
	b, _ := Bytes(Point{1, 2, 3, 4, []Block{{5, 6}}, []table.Slot{slot(7, at(5, 9), api.Meta{Kind: 2, Key: 11, Seq: 12, Stamp: 13, Batch: 14, Floor: 15})}})
	var got []int
	for i := 0; i+4 < len(b); i += 4 {
		got = append(got, int(b[i])|int(b[i+1])<<8|int(b[i+2])<<16|int(b[i+3])<<24)
	}
	if !slices.Equal(got, []int{1, 2, 3, 4, 1, 5, 6, 1, 7, 5, 9, 2, 11, 12, 13, 14, 15}) {
		t.Error(got)
	}
}

func TestMay(t *testing.T) {
	if !May(good()) || !May(Point{}) {
		t.Error("good ones")
	}
	for i, change := range []func(p *Point, n int){
		func(p *Point, n int) { p.Seq = n }, func(p *Point, n int) { p.Stamp = n }, func(p *Point, n int) { p.Batch = n }, func(p *Point, n int) { p.Floor = n },
		func(p *Point, n int) { p.Blocks[0].Stamp = n }, func(p *Point, n int) { p.Blocks[1].Number = n }, func(p *Point, n int) { p.Blocks[0].Number = n },
		func(p *Point, n int) { p.Slots[0].Key = n }, func(p *Point, n int) { p.Slots[0].Meta.Kind = n }, func(p *Point, n int) { p.Slots[0].Meta.Seq = n }, func(p *Point, n int) { p.Slots[1].Place.Page = n }, func(p *Point, n int) { p.Slots[2].Place.Block = n },
	} {
		for _, n := range []int{-1, api.MaxNum + 1, 1<<63 - 1, -1 << 63} {
			p := good()
			change(&p, n)
			if b, err := Bytes(p); May(p) || len(b) != 0 || err != api.ErrRecord {
				t.Error(i, n)
			}
		}
	}
	for i, change := range []func(p *Point){
		func(p *Point) { p.Blocks[1].Number = 64 }, func(p *Point) { p.Blocks[0].Number = 63 }, func(p *Point) { p.Slots[1].Place.Page = 64 }, func(p *Point) { p.Slots[1].Place.Page = 0 },
		func(p *Point) { p.Slots[2].Place.Block = 5 }, func(p *Point) { p.Slots[0], p.Slots[2] = p.Slots[2], p.Slots[0] }, func(p *Point) { p.Blocks = nil }, func(p *Point) { p.Slots[1].Meta.Kind = 7 }, func(p *Point) { p.Slots[1].Meta.Kind = 0 },
	} {
		p := good()
		change(&p)
		if May(p) {
			t.Error(i)
		}
	}
}

func TestRound(t *testing.T) {
	r := rand.New(rand.NewSource(1))
	for range 100 {
		p := some(r)
		b, err := Bytes(p)
		if err != nil || len(b) != 28+8*len(p.Blocks)+36*len(p.Slots) {
			t.Fatal(err)
		}
		q, err := Open(b)
		if err != nil || !reflect.DeepEqual(p, q) {
			t.Fatal(p, q, err)
		}
		for range 20 {
			c := bytes.Clone(b)
			i := r.Intn(8 * len(b))
			c[i/8] ^= 1 << (i % 8)
			if q, err := Open(c); err != api.ErrRecord || !reflect.DeepEqual(q, Point{}) {
				t.Fatal("a turned bit")
			}
		}
		for _, c := range [][]byte{b[:len(b)-1], b[1:], append(bytes.Clone(b), 0), b[:r.Intn(len(b))]} {
			if _, err := Open(c); err != api.ErrRecord {
				t.Fatal("cut, or longer")
			}
		}
	}
	for n := range 40 {
		if _, err := Open(make([]byte, n)); err != api.ErrRecord {
			t.Error("zeros", n)
		}
	}
}

// TestForged: bytes whose sum is right.
func TestForged(t *testing.T) {
	whole, _ := Bytes(good())
	whole = whole[:len(whole)-4]
	sealed := func(b []byte) []byte {
		w := &writer{bytes: bytes.Clone(b)}
		w.number(crc.Of(b))
		return w.bytes
	}
	if _, err := Open(sealed(whole)); err != nil {
		t.Fatal(err)
	}
	for n := range len(whole) {
		if p, err := Open(sealed(whole[:n])); err != api.ErrRecord || !reflect.DeepEqual(p, Point{}) {
			t.Error("too early", n)
		}
	}
	for n := 1; n < 50; n++ {
		if _, err := Open(sealed(append(bytes.Clone(whole), make([]byte, n)...))); err != api.ErrRecord {
			t.Error("it goes on", n)
		}
	}
	for at := 0; at < len(whole); at += 4 {
		for _, top := range []byte{0xFF, 0x80, 0x40} {
			b := bytes.Clone(whole)
			b[at+3] = top
			b[at] |= 1
			if p, err := Open(sealed(b)); err != api.ErrRecord || !reflect.DeepEqual(p, Point{}) {
				t.Error("no number", at)
			}
		}
	}
}

func TestPieces(t *testing.T) {
	r := rand.New(rand.NewSource(2))
	for range 300 {
		size := 16 + r.Intn(60)
		b := make([]byte, r.Intn(64*(size-12)+1))
		r.Read(b)
		number := r.Intn(api.MaxNum + 1)
		l, err := Pieces(b, size, number)
		if err != nil || len(l) != max(1, (len(b)+size-13)/(size-12)) {
			t.Fatal(len(b), size, err)
		}
		last := l[len(l)-1]
		for i := 12 + len(b) - (len(l)-1)*(size-12); i < size; i++ {
			if last[i] != 0 {
				t.Fatal("what fills up")
			}
			last[i] = 7
		}
		n, c, err := Join(l)
		if n != number || !bytes.Equal(c, b) || err != nil {
			t.Fatal(n, err)
		}
		l[0][12]++
		_ = append(c, 1)
		if len(b) > 0 && !bytes.Equal(c, b) {
			t.Fatal("memory")
		}
	}
}

func TestPiecesErrors(t *testing.T) {
	for _, x := range []struct {
		bytes, size, number, want int
		err                       error
	}{
		{0, 16, 0, 1, nil}, {256, 16, api.MaxNum, 64, nil}, {257, 16, 0, 0, api.ErrMany}, {64 * 1012, 1024, 0, 64, nil}, {64*1012 + 1, 1024, 0, 0, api.ErrMany},
		{999, 15, -1, 0, api.ErrSize}, {999, 1025, -1, 0, api.ErrSize}, {999, -16, 0, 0, api.ErrSize}, {999, 16, -1, 0, api.ErrRecord}, {999, 16, api.MaxNum + 1, 0, api.ErrRecord},
	} {
		if l, err := Pieces(make([]byte, x.bytes), x.size, x.number); len(l) != x.want || err != x.err {
			t.Error(x, len(l), err)
		}
	}
}

func TestJoinErrors(t *testing.T) {
	made := func() [][]byte { l, _ := Pieces(make([]byte, 20), 20, 7); return l }
	if _, _, err := Join(nil); err != api.ErrSize {
		t.Error("none")
	}
	many := slices.Repeat(made()[:1], 65)
	for i, x := range []struct {
		change func(l [][]byte) [][]byte
		err    error
	}{
		{func(l [][]byte) [][]byte { return l }, nil},
		{func(l [][]byte) [][]byte { l[1] = l[1][:19]; return l }, api.ErrSize},
		{func(l [][]byte) [][]byte { return [][]byte{l[0][:15]} }, api.ErrSize},
		{func(l [][]byte) [][]byte { return [][]byte{make([]byte, 1025)} }, api.ErrSize},
		{func(l [][]byte) [][]byte { return [][]byte{nil} }, api.ErrSize},
		{func(l [][]byte) [][]byte { return l[:2] }, api.ErrRecord},
		{func(l [][]byte) [][]byte { return append(l, l[2]) }, api.ErrRecord},
		{func(l [][]byte) [][]byte { l[0], l[1] = l[1], l[0]; return l }, api.ErrRecord},
		{func(l [][]byte) [][]byte { l[2] = l[1]; return l }, api.ErrRecord},
		{func(l [][]byte) [][]byte { l[1][0] = 8; return l }, api.ErrRecord},
		{func(l [][]byte) [][]byte { l[1][8] = 21; return l }, api.ErrRecord},
		{func(l [][]byte) [][]byte { l[0][3], l[1][3], l[2][3] = 255, 255, 255; return l }, api.ErrRecord},
		{func(l [][]byte) [][]byte { l[0][11], l[1][11], l[2][11] = 255, 255, 255; return l }, api.ErrRecord},
		{func(l [][]byte) [][]byte { l[2][16] = 255; return l }, nil},
		{func(l [][]byte) [][]byte { return many }, api.ErrRecord},
	} {
		n, b, err := Join(x.change(made()))
		if err != x.err || err != nil && (n != 0 || len(b) != 0) || err == nil && (n != 7 || len(b) != 20) {
			t.Error(i, n, b, err)
		}
	}
}

func TestPages(t *testing.T) {
	m := good().Slots[0].Meta
	h := func(b, stamp int) scan.Page {
		return scan.Page{Place: at(b, 0), Class: api.Whole, Meta: api.Meta{Kind: api.Head, Key: b, Stamp: stamp, Floor: 4}}
	}
	want := []scan.Page{h(0, 5), {Place: at(0, 63), Class: api.Whole, Meta: m}, h(63, 6), {Place: at(63, 1), Class: api.Whole, Meta: m}}
	if got := Pages(good()); !slices.Equal(got, want) {
		t.Error(got)
	}
	if len(Pages(Point{})) != 0 {
		t.Error("of none")
	}
}
