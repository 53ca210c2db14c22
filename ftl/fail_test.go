package ftl

import (
	"bytes"
	"math/rand"
	"testing"

	"shale/api"
	"shale/page"
)

// amiss is how many blocks are bad, or failed.
func (f *FTL) amiss() int { return f.bad() + len(f.log.Failed()) }

// TestRoomFails: there is room while blocks fail one after the other, as many as the reserve, with cuts in between.
func TestRoomFails(t *testing.T) {
	hits := 0
	for seed := range int64(60) {
		r := rand.New(rand.NewSource(seed))
		g := []api.Geometry{
			{Blocks: 24, Pages: 8, Sector: 16, M: 9, T: 1, Levels: 1, Reserve: 6, Wear: 3, Buffer: 13},
			{Blocks: 44, Pages: 4, Sector: 16, M: 9, T: 1, Levels: 1, Reserve: 8, Wear: 2, Buffer: 5},
			{Blocks: 20, Pages: 16, Sector: 100, M: 11, T: 2, Levels: 1, Reserve: 8, Wear: 2, Buffer: 16},
			{Blocks: 64, Pages: 3, Sector: 16, M: 9, T: 1, Levels: 1, Reserve: 3, Wear: 2, Buffer: 2},
		}[seed%4]
		f, c := formatted(t, g, nil)
		left := g.Reserve
		now := make([]byte, page.Sectors(g))
		for n := range 250 {
			was, planned, cut := f.amiss(), left > 0 && r.Intn(3) == 0, r.Intn(12) == 0
			var plan []api.Fault
			if planned {
				plan = append(plan, api.Fault{Op: c.Ops() + r.Intn(3*g.Buffer), Kind: api.Fail, N: r.Intn(99)})
			}
			if cut {
				plan = append(plan, api.Fault{Op: c.Ops() + r.Intn(5*g.Buffer), Kind: api.Cut, N: r.Intn(99)})
			}
			c.Plan(plan)
			next := bytes.Clone(now)
			var l []api.Entry
			for _, key := range r.Perm(len(now))[:min(len(now), g.Buffer)] {
				next[key] = byte(1 + r.Intn(255))
				l = append(l, api.Entry{Key: key, Data: sector(g, int(next[key]))})
			}
			var err error
			switch r.Intn(9) {
			case 0:
				err = f.Collect(2)
				next = now
			case 1:
				err = f.Point()
				next = now
			default:
				err = f.Write(l)
			}
			switch err {
			case nil:
				now = next
			case api.ErrMany:
			case api.ErrDead:
			default:
				t.Fatal(seed, n, g, err, f.Stats())
			}
			if planned && (err == api.ErrDead || f.amiss() > was) {
				left--
				hits++
			}
			if err == api.ErrDead || r.Intn(30) == 0 {
				f, now = again(t, f, r, now, next)
			}
		}
		if c.Broken() != 0 {
			t.Error("a rule is broken")
		}
	}
	if hits < 150 {
		t.Error("too little failed", hits)
	}
}

// again mounts, and looks which of the two is there.
func again(t *testing.T, f *FTL, r *rand.Rand, now, next []byte) (*FTL, []byte) {
	t.Helper()
	f.c.Power()
	f.c.Plan(nil)
	m := mounted(t, f.c, f.g, r.Intn(2) == 0)
	if m.ready() != nil {
		t.Fatal("it can only be read", m.Stats())
	}
	is := make([]byte, len(now))
	for key := range is {
		b, ok, err := m.Read(key)
		if err != nil {
			t.Fatal(key, err)
		}
		if ok {
			is[key] = b[0]
		}
	}
	if !bytes.Equal(is, now) && !bytes.Equal(is, next) {
		t.Fatal("neither what was, nor what was to be")
	}
	return m, is
}
