package ftl

import (
	"bytes"
	"math/rand"
	"testing"

	"shale/api"
	"shale/page"
)

// TestRoom: as long as no more blocks are bad, or fail, than the reserve, there is room, however full the disk is.
func TestRoom(t *testing.T) {
	for seed, g := range []api.Geometry{
		example(),
		{Blocks: 64, Pages: 3, Sector: 16, M: 9, T: 1, Levels: 1, Reserve: 0, Wear: 2, Buffer: 3},
		{Blocks: 34, Pages: 4, Sector: 16, M: 9, T: 1, Levels: 1, Reserve: 3, Wear: 2, Buffer: 5},
		{Blocks: 20, Pages: 8, Sector: 200, M: 11, T: 2, Levels: 1, Reserve: 4, Wear: 3, Buffer: 13},
		{Blocks: 64, Pages: 64, Sector: 128, M: 11, T: 1, Levels: 1, Reserve: 2, Wear: 2, Buffer: 64},
		{Blocks: 8, Pages: 64, Sector: 1024, M: 14, T: 1, Levels: 1, Reserve: 0, Wear: 2, Buffer: 64},
		{Blocks: 24, Pages: 16, Sector: 512, M: 13, T: 1, Levels: 1, Reserve: 8, Wear: 1000, Buffer: 29},
	} {
		r := rand.New(rand.NewSource(int64(seed)))
		var marked []int
		for range g.Reserve / 3 {
			marked = append(marked, r.Intn(g.Blocks))
		}
		var plan []api.Fault
		for range g.Reserve - len(marked) {
			plan = append(plan, api.Fault{Op: r.Intn(6000), Kind: api.Fail, N: r.Intn(300)})
		}
		c := chipOf(t, g, marked, plan...)
		f, err := Format(c, g)
		if err != nil {
			t.Fatal(err)
		}
		now := make([][]byte, page.Sectors(g))
		for n := range 400 {
			var l []api.Entry
			for i, key := range r.Perm(len(now))[:min(len(now), 1+r.Intn(g.Buffer))] {
				if n*g.Buffer < 2*len(now) {
					key = (n*g.Buffer + i) % len(now)
				}
				e := api.Entry{Key: key, Data: make([]byte, g.Sector)}
				r.Read(e.Data)
				if r.Intn(9) == 0 {
					e.Trim = true
				}
				l = append(l, e)
			}
			if err := f.Write(l); err != nil {
				t.Fatal(g, "Write", n, err, f.Stats())
			}
			for _, e := range l {
				now[e.Key] = e.Data
				if e.Trim {
					now[e.Key] = nil
				}
			}
			if r.Intn(5) == 0 {
				if err := f.Point(); err != nil && err != api.ErrMany {
					t.Fatal(g, "Point", n, err, f.Stats())
				}
			}
			if r.Intn(20) == 0 {
				if err := f.Collect(r.Intn(9)); err != nil {
					t.Fatal(g, "Collect", n, err, f.Stats())
				}
			}
			if r.Intn(40) == 0 {
				if f, err = Mount(c, g, r.Intn(2) == 0); err != nil || f.ready() != nil {
					t.Fatal(g, "Mount", n, err, f.ready())
				}
			}
		}
		for key, want := range now {
			b, ok, err := f.Read(key)
			if err != nil || ok != (want != nil) || !bytes.Equal(b, want) {
				t.Fatal(g, "Read", key, err)
			}
		}
		if c.Broken() != 0 {
			t.Error("a rule is broken")
		}
		t.Log(f.Stats())
	}
}
