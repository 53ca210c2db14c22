package model_test

import (
	"bytes"
	"testing"

	"shale/api"
	"shale/disk"
	"shale/page"
)

// storm turns any number of bits at any level, now and then.
func (w *world) storm(cut bool) {
	var l []api.Fault
	from := w.c.Ops()
	for len(l) < api.MaxFaults-2 && w.r.Intn(500) > 0 {
		bits := w.r.Perm(8 * w.codec.Size())[:w.r.Intn(15*w.g.T)]
		l = append(l, api.Fault{Op: from + w.r.Intn(800), Kind: api.Flip, Level: w.r.Intn(w.g.Levels+1) - 1, Bits: bits})
	}
	for w.r.Intn(3) > 0 {
		l = append(l[:min(len(l), 900)], api.Fault{Op: from + w.r.Intn(300), Kind: api.Fail, N: w.r.Intn(w.codec.Size() + 2)})
	}
	if cut {
		l = append(l[:min(len(l), 900)], api.Fault{Op: from + w.r.Intn(1<<w.r.Intn(10)), Kind: api.Cut, N: w.r.Intn(w.codec.Size() + 2)})
	}
	if err := w.c.Plan(l); err != nil {
		w.t.Fatal(err)
	}
}

// past is what each sector was once, and what it is now, as far as it is known.
type past struct {
	once [][][]byte
	now  [][]byte // nil: not known
}

func (p *past) write(key int, data []byte) {
	p.once[key] = append(p.once[key], data)
	p.now[key] = data
}

// read tells whether a read may answer that.
func (p *past) read(key int, data []byte) bool {
	if p.now[key] != nil {
		return bytes.Equal(p.now[key], data)
	}
	for _, b := range p.once[key] {
		if bytes.Equal(b, data) {
			p.now[key] = data
			return true
		}
	}
	return false
}

// forget lets nothing be known for sure behind a mount, which may not have been able to read what it was.
func (w *world) forget(p *past) {
	for key := range p.now {
		p.now[key] = nil
	}
	clear(w.bad)
}

// rage does steps on a chip that keeps to no bound, but that no page comes to one that was never laid there.
func (w *world) rage(steps int) bool {
	w.t.Helper()
	n := page.Sectors(w.g)
	p := &past{once: make([][][]byte, n), now: make([][]byte, n)}
	for key := range n {
		p.write(key, make([]byte, w.g.Sector))
	}
	for range steps {
		if w.r.Intn(10) == 0 {
			w.storm(w.r.Intn(4) == 0)
		}
		s := w.random()
		w.step++
		a := w.m.Do(s)
		if w.other {
			return false
		}
		switch {
		case a.Err == api.ErrDead:
			w.revive()
			w.forget(p)
		case a.Err == api.ErrNumber || a.Err == api.ErrSize || a.Err == api.ErrMany:
		case s.Kind == disk.Read && a.Err == api.ErrPage:
		case a.Err == api.ErrFull || a.Err == api.ErrReadOnly:
			if s.Kind == disk.Read || s.Kind == disk.Remount {
				w.fatal("not allowed", s.Kind, a.Err)
			}
			if w.r.Intn(5) == 0 {
				w.revive()
				w.forget(p)
			}
		case a.Err != nil:
			w.fatal("not allowed", s.Kind, a.Err)
		case s.Kind == disk.Read && !p.read(s.A, a.Data):
			w.fatal("not what was there", s.A, a.Data, p.once[s.A])
		case s.Kind == disk.Write:
			p.write(s.A, s.Data)
		case s.Kind == disk.Trim:
			p.write(s.A, make([]byte, w.g.Sector))
		case s.Kind == disk.Remount:
			w.forget(p)
		}
		if w.other {
			return false
		}
		w.rules()
	}
	return true
}

// revive mounts the disk until there is one.
func (w *world) revive() {
	for {
		w.storm(w.r.Intn(3) == 0)
		a := w.m.Do(disk.Step{Kind: disk.Remount, A: w.r.Intn(2)})
		if a.Err == nil {
			return
		}
		if a.Err != api.ErrDead {
			w.fatal("Remount", a.Err)
		}
		w.cuts++
	}
}

// TestBeyond (P0.10): scripts on chips that turn any number of bits, and fail as often as they like.
func TestBeyond(t *testing.T) {
	done := 0
	for seed := range int64(70) {
		w := begin(t, seed, false)
		if w.rage(150) {
			done++
		}
	}
	t.Log(done)
	if done < 20 {
		t.Error("too little was tried", done)
	}
}
