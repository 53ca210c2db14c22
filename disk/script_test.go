package disk

import (
	"bytes"
	"math/rand"
	"testing"

	"shale/api"
)

// TestScripts: scripts with cuts at each operation: behind the mount the disk has what was flushed, and all or
// nothing of what was being flushed; no rule of the chip is broken; mounted with points, or twice, it is the same.
func TestScripts(t *testing.T) {
	g := example()
	for seed := range int64(12) {
		r := rand.New(rand.NewSource(seed))
		for op := 0; op < 260; op += 1 + r.Intn(12) {
			c := chipOf(t, g)
			m, err := New(c, g)
			if err != nil {
				t.Fatal(err)
			}
			m.Do(Step{Kind: Cut, A: op, B: r.Intn(60)})
			now, next := make([]int, 33), make([]int, 33)
			dead := false
			for n := 1; !dead && n < 60; n++ {
				for range 4 {
					key := r.Intn(12)
					next[key] = n
					s := Step{Kind: Write, A: key, Data: sector(n)}
					if r.Intn(6) == 0 {
						s, next[key] = Step{Kind: Trim, A: key}, 0
					}
					if a := m.Do(s); a.Err != nil {
						t.Fatal(a.Err)
					}
				}
				kind := Flush
				if r.Intn(8) == 0 {
					kind = Point
				}
				switch a := m.Do(Step{Kind: kind}); a.Err {
				case nil, api.ErrMany:
					copy(now, next)
				case api.ErrDead:
					dead = true
				default:
					t.Fatal(a.Err)
				}
			}
			behind(t, m, r, now, next)
		}
	}
}

// behind mounts, with a cut now and then, and looks that all sectors are as they were, or all as they were to be.
func behind(t *testing.T, m *Machine, r *rand.Rand, now, next []int) {
	t.Helper()
	for n := range 3 {
		m.Do(Step{Kind: Cut, A: r.Intn(340), B: r.Intn(60)})
		a := m.Do(Step{Kind: Remount, A: r.Intn(2)})
		if a.Err != nil && a.Err != api.ErrDead {
			t.Fatal(n, a.Err)
		}
	}
	m.Chip().Plan(nil)
	if a := m.Do(Step{Kind: Remount, A: r.Intn(2)}); a.Err != nil {
		t.Fatal(a.Err)
	}
	old, done := true, true
	for key := range now {
		a := m.Do(Step{Kind: Read, A: key})
		if a.Err != nil {
			t.Fatal(key, a.Err)
		}
		old = old && bytes.Equal(a.Data, sector(now[key]))
		done = done && bytes.Equal(a.Data, sector(next[key]))
	}
	if !old && !done || m.Chip().Broken() != 0 {
		t.Fatal("neither what was, nor what was to be", m.Chip().Broken())
	}
}

// TestSame: what a script answers hangs on nothing but the script.
func TestSame(t *testing.T) {
	g := example()
	r := rand.New(rand.NewSource(3))
	var l []Step
	for range 400 {
		l = append(l, Step{Kind: 1 + r.Intn(7), A: r.Intn(34), B: r.Intn(60), Data: sector(r.Intn(256))})
	}
	c, d := chipOf(t, g), chipOf(t, g)
	a, _ := Run(c, g, l)
	b, _ := Run(d, g, l)
	for i := range a {
		if a[i].Err != b[i].Err || !bytes.Equal(a[i].Data, b[i].Data) {
			t.Fatal(i, a[i], b[i])
		}
	}
	if c.Ops() != d.Ops() || c.Broken() != 0 {
		t.Error(c.Ops(), d.Ops())
	}
}
