package page

import (
	"bytes"
	"math/rand"
	"testing"

	"shale/api"
	"shale/encode"
	"shale/meta"
	"shale/scramble"
)

func small() api.Geometry {
	return api.Geometry{Blocks: 8, Pages: 16, Sector: 16, M: 10, T: 2, Levels: 2, Reserve: 0, Wear: 4, Buffer: 8}
}

func codec(t *testing.T, g api.Geometry) *Codec {
	t.Helper()
	c, err := New(g)
	if err != nil {
		t.Fatal(g, err)
	}
	return c
}

func geometries() []api.Geometry {
	a, b, c := small(), small(), small()
	b.M, b.T, b.Sector = 14, 16, 1024
	c.M, c.T, c.Sector = 9, 5, 20
	return []api.Geometry{a, b, c}
}

func TestExamples(t *testing.T) {
	c := codec(t, small())
	if c.Size() != 51 || Sectors(small()) != 5 {
		t.Error("Size, Sectors", c.Size())
	}
	p := api.Place{Block: 1, Page: 2}
	if r, err := c.Open(p, bytes.Repeat([]byte{255}, 51)); r.Class != api.Erased || r.Meta != (api.Meta{}) || r.Data != nil || r.Fixed != 0 || err != nil {
		t.Error("erased")
	}
	if r, err := c.Open(p, make([]byte, 51)); r.Class != api.Torn || r.Meta != (api.Meta{}) || r.Data != nil || r.Fixed != 0 || err != nil {
		t.Error("zeros")
	}
}

func TestValid(t *testing.T) {
	type change func(g *api.Geometry, n int)
	blocks := func(g *api.Geometry, n int) { g.Blocks = n }
	pages := func(g *api.Geometry, n int) { g.Pages = n }
	for i, x := range []struct {
		to       change
		in, outs []int
	}{
		{blocks, []int{8, 64}, []int{7, 65, 0, -1}},
		{pages, []int{12, 64}, []int{2, 65, 0, -1, 11}},
		{func(g *api.Geometry, n int) { g.Sector = n }, []int{16, 93}, []int{15, 1025, 0}},
		{func(g *api.Geometry, n int) { g.M = n }, []int{9, 14}, []int{2, 15, -1}},
		{func(g *api.Geometry, n int) { g.T = n }, []int{1, 16}, []int{0, 17, -1}},
		{func(g *api.Geometry, n int) { g.Levels = n }, []int{1, 8}, []int{0, 9}},
		{func(g *api.Geometry, n int) { g.Reserve = n }, []int{0}, []int{-1, 1, 100}},
		{func(g *api.Geometry, n int) { g.Wear = n }, []int{2, 1000}, []int{1, 1001}},
		{func(g *api.Geometry, n int) { g.Buffer = n }, []int{1, 29}, []int{0, 30, 64}},
	} {
		for _, n := range x.in {
			g := small()
			x.to(&g, n)
			if Valid(g) != nil || Sectors(g) < 1 {
				t.Error(i, n, Valid(g), Sectors(g))
			}
		}
		for _, n := range x.outs {
			g := small()
			x.to(&g, n)
			if c, err := New(g); Valid(g) != api.ErrGeometry || Sectors(g) != 0 || c != nil || err != api.ErrGeometry {
				t.Error(i, n, Valid(g), Sectors(g))
			}
		}
	}
	big := small()
	big.Pages, big.Buffer = 64, 64
	if Valid(big) != nil {
		t.Error("the greatest buffer")
	}
	big.Buffer = 65
	if Valid(big) != api.ErrGeometry {
		t.Error("a greater one")
	}
	big = small()
	big.Blocks, big.Pages, big.Reserve = 64, 64, 50
	if Sectors(big) != 63*8-64-64-1 || Valid(big) != nil {
		t.Error(Sectors(big))
	}
}

// TestNoCode: the numbers are in their bounds, but there is no such code.
func TestNoCode(t *testing.T) {
	g := small()
	g.M = 3
	if c, err := New(g); c != nil || err != api.ErrCode || Valid(g) != api.ErrCode || Sectors(g) != 5 {
		t.Error(err)
	}
	g = small()
	g.Sector = 94
	if Valid(g) != api.ErrCode {
		t.Error(Valid(g))
	}
	g.Sector, g.Wear = 94, 0
	if Valid(g) != api.ErrGeometry {
		t.Error("the order")
	}
}

func record(r *rand.Rand) api.Meta {
	return api.Meta{Kind: 1 + r.Intn(6), Key: r.Intn(99), Seq: r.Intn(api.MaxNum), Stamp: r.Intn(99), Batch: r.Intn(2), Floor: r.Intn(99)}
}

func TestLay(t *testing.T) {
	r := rand.New(rand.NewSource(1))
	for _, g := range geometries() {
		c := codec(t, g)
		code, _ := encode.New(g.M, g.T, g.Sector+api.MetaBytes)
		p, m, data := api.Place{Block: r.Intn(9), Page: r.Intn(9)}, record(r), make([]byte, g.Sector)
		r.Read(data)
		b, err := c.Lay(p, m, data)
		if err != nil || len(b) != c.Size() || len(b) != g.Sector+32+code.Parity() {
			t.Fatal(g, err)
		}
		own, _ := meta.Bytes(m, data)
		want := append(scramble.Mix(scramble.Seed(p), data), own...)
		parity, _ := code.Serial(want)
		for i := code.Degree(); i < 8*len(parity); i++ {
			parity[i/8] |= 1 << (i % 8)
		}
		if !bytes.Equal(b, append(want, parity...)) {
			t.Error("the page", g)
		}
		for _, n := range []int{0, g.Sector - 1, g.Sector + 1} {
			if b, err := c.Lay(p, api.Meta{}, make([]byte, n)); len(b) != 0 || err != api.ErrSize {
				t.Error("size", n)
			}
		}
		if b, err := c.Lay(p, api.Meta{}, data); len(b) != 0 || err != api.ErrRecord {
			t.Error("record")
		}
	}
}

func TestOpen(t *testing.T) {
	r := rand.New(rand.NewSource(2))
	for _, g := range geometries() {
		c := codec(t, g)
		code, _ := encode.New(g.M, g.T, g.Sector+api.MetaBytes)
		for range 30 {
			p, m, data := api.Place{Block: r.Intn(9), Page: r.Intn(9)}, record(r), make([]byte, g.Sector)
			r.Read(data)
			b, _ := c.Lay(p, m, data)
			n := r.Intn(g.T + 1)
			for _, i := range r.Perm(8*(g.Sector+32) + code.Degree())[:n] {
				b[i/8] ^= 1 << (i % 8)
			}
			for i := code.Degree(); i < 8*code.Parity(); i++ {
				b[g.Sector+32+i/8] ^= byte(r.Intn(2)) << (i % 8)
			}
			was := bytes.Clone(b)
			x, err := c.Open(p, b)
			if err != nil || x.Class != api.Whole || x.Meta != m || !bytes.Equal(x.Data, data) || x.Fixed != n {
				t.Fatal(g, n, x, err)
			}
			x.Data[0]++
			_ = append(x.Data, 1)
			if !bytes.Equal(was, b) {
				t.Fatal("what was handed in is changed")
			}
			// Elsewhere the sector comes back unlike, so its sum is not right.
			if x, _ := c.Open(api.Place{Block: p.Block + 1, Page: p.Page}, b); x.Class != api.Torn || x.Fixed != 0 || x.Data != nil || x.Meta != (api.Meta{}) {
				t.Fatal("at another place")
			}
		}
	}
}

func TestErased(t *testing.T) {
	r := rand.New(rand.NewSource(3))
	for _, g := range geometries() {
		c := codec(t, g)
		for n := range 2 * g.T {
			b := bytes.Repeat([]byte{255}, c.Size())
			for _, i := range r.Perm(8 * len(b))[:n] {
				b[i/8] ^= 1 << (i % 8)
			}
			x, err := c.Open(api.Place{}, b)
			if Zeros(b) != n || err != nil || (x.Class == api.Erased) != (n <= g.T) || x.Fixed != 0 && x.Class == api.Erased {
				t.Fatal(g, n, x)
			}
		}
		for _, n := range []int{0, c.Size() - 1, c.Size() + 1} {
			if x, err := c.Open(api.Place{}, make([]byte, n)); x.Class != 0 || err != api.ErrSize {
				t.Error("size", n)
			}
		}
	}
	if Zeros(nil) != 0 || Zeros([]byte{0, 255, 1}) != 15 {
		t.Error("Zeros")
	}
}

// TestTorn: with more bits turned than can be mended a page is Torn, as a rule.
func TestTorn(t *testing.T) {
	r := rand.New(rand.NewSource(4))
	c := codec(t, geometries()[1])
	data := make([]byte, 1024)
	b, _ := c.Lay(api.Place{}, api.Meta{Kind: 2}, data)
	for _, i := range r.Perm(8 * len(b))[:60] {
		b[i/8] ^= 1 << (i % 8)
	}
	if x, err := c.Open(api.Place{}, b); x.Class != api.Torn || x.Fixed != 0 || x.Data != nil || err != nil {
		t.Error(x.Class, err)
	}
}
