package model_test

import (
	"bytes"
	"math/rand"
	"slices"
	"testing"

	"shale/api"
	"shale/chip"
	"shale/decode"
	"shale/disk"
	"shale/encode"
	"shale/ftl"
	"shale/model"
	"shale/page"
	"shale/table"
)

// world is a disk, the disk as it should be, and what goes amiss with the chip.
type world struct {
	t     *testing.T
	r     *rand.Rand
	g     api.Geometry
	codec *page.Codec
	c     *chip.Chip
	m     *disk.Machine
	model *model.Model

	fails  int            // how many may still fail
	harsh  bool           // bits are turned
	spoil  int            // how many bits of a page are turned as it is laid
	other  bool           // a page came to one that was never laid there: nothing is promised any more
	beyond bool           // that, or one was read that was not laid in all its bytes
	bad    map[int][]byte // of blocks that are known to be bad, what their cells were then
	cuts   int
	seed   int64
	step   int
}

// geometries are of all proportions.
func geometries() []api.Geometry {
	return []api.Geometry{
		{Blocks: 10, Pages: 16, Sector: 16, M: 10, T: 2, Levels: 2, Reserve: 0, Wear: 4, Buffer: 8},
		{Blocks: 12, Pages: 8, Sector: 17, M: 9, T: 1, Levels: 3, Reserve: 1, Wear: 2, Buffer: 13},
		{Blocks: 64, Pages: 3, Sector: 16, M: 9, T: 3, Levels: 1, Reserve: 0, Wear: 2, Buffer: 3},
		{Blocks: 32, Pages: 4, Sector: 20, M: 10, T: 4, Levels: 2, Reserve: 2, Wear: 3, Buffer: 5},
		{Blocks: 14, Pages: 12, Sector: 40, M: 11, T: 5, Levels: 4, Reserve: 3, Wear: 5, Buffer: 21},
		{Blocks: 8, Pages: 24, Sector: 60, M: 11, T: 3, Levels: 2, Reserve: 0, Wear: 2, Buffer: 45},
		{Blocks: 16, Pages: 10, Sector: 100, M: 12, T: 2, Levels: 2, Reserve: 4, Wear: 1000, Buffer: 1},
	}
}

func begin(t *testing.T, seed int64, harsh bool) *world {
	t.Helper()
	w := &world{t: t, r: rand.New(rand.NewSource(seed)), harsh: harsh, seed: seed, bad: make(map[int][]byte)}
	l := geometries()
	w.g = l[int(seed)%len(l)]
	blocks, pages, size, levels, err := ftl.Shape(w.g)
	if err != nil {
		t.Fatal(w.g, err)
	}
	var marked []int
	for w.g.Reserve > len(marked) && w.r.Intn(2) == 0 {
		marked = append(marked, w.r.Intn(blocks))
	}
	w.fails = w.g.Reserve - len(marked)
	w.c, err = chip.New(blocks, pages, size, levels, marked, nil)
	if err != nil {
		t.Fatal(err)
	}
	w.codec, _ = page.New(w.g)
	w.spoil = w.r.Intn(1 + w.g.T/2)
	w.c.Watch(w.see)
	w.plan(false)
	w.m, err = disk.New(w.c, w.g)
	if err != nil {
		t.Fatal(err)
	}
	w.model, err = model.New(page.Sectors(w.g), w.g.Sector)
	if err != nil {
		t.Fatal(err)
	}
	return w
}

// see looks whether what is read is still within what the disk is promised for.
func (w *world) see(p api.Place, _ int, got, laid []byte) {
	x, _ := w.codec.Open(p, got)
	if x.Class != api.Whole {
		return
	}
	y, _ := w.codec.Open(p, append(laid, make([]byte, len(got)-len(laid))...))
	w.other = w.other || y.Class != api.Whole || y.Meta != x.Meta || !bytes.Equal(y.Data, x.Data)
	w.beyond = w.beyond || w.other || decode.Distance(w.c.Cells(p), laid) > w.spoil
}

// plan lets bits be turned, programs and erases fail, and the power go, in the next operations.
func (w *world) plan(cut bool) {
	var l []api.Fault
	bits := func(most int) []int {
		n := w.r.Intn(most + 1)
		return w.r.Perm(8 * w.codec.Size())[:n]
	}
	from := w.c.Ops()
	good, spoilt := w.r.Intn(w.g.Levels), -1
	for op := from; w.harsh && op < from+400; op++ {
		if w.r.Intn(3) == 0 {
			continue
		}
		l = append(l, api.Fault{Op: op, Kind: api.Flip, Level: good, Bits: bits(w.g.T - w.spoil)})
		if w.r.Intn(3) == 0 && spoilt < op {
			l, spoilt = append(l, api.Fault{Op: op, Kind: api.Spoil, Bits: bits(w.spoil)}), op
		}
		if bad := w.r.Intn(w.g.Levels); bad != good && w.r.Intn(4) == 0 {
			l = append(l, api.Fault{Op: op, Kind: api.Flip, Level: bad, Bits: bits(40 * w.g.T)})
		}
	}
	for w.fails > 0 && w.r.Intn(6) == 0 {
		w.fails--
		l = append(l, api.Fault{Op: from + w.r.Intn(300), Kind: api.Fail, N: w.r.Intn(w.codec.Size() + 2)})
	}
	if cut {
		l = append(l, api.Fault{Op: from + w.r.Intn(1<<w.r.Intn(10)), Kind: api.Cut, N: w.r.Intn(w.codec.Size() + 2)})
	}
	l = l[max(0, len(l)-api.MaxFaults):]
	if err := w.c.Plan(l); err != nil {
		w.t.Fatal(err)
	}
}

func (w *world) fatal(l ...any) {
	w.t.Helper()
	w.t.Fatal(append([]any{"seed", w.seed, "step", w.step, w.g}, l...)...)
}

// random is a step that lays, reads, or writes down.
func (w *world) random() disk.Step {
	key := w.r.Intn(page.Sectors(w.g)+2) - 1
	if w.r.Intn(3) > 0 {
		key = w.r.Intn(1 + page.Sectors(w.g)/4)
	}
	switch n := w.r.Intn(40); {
	case n < 20:
		data := make([]byte, w.g.Sector)
		w.r.Read(data)
		if w.r.Intn(60) == 0 {
			data = data[1:]
		}
		return disk.Step{Kind: disk.Write, A: key, Data: data}
	case n < 24:
		return disk.Step{Kind: disk.Trim, A: key}
	case n < 31:
		return disk.Step{Kind: disk.Read, A: key}
	case n < 38:
		return disk.Step{Kind: disk.Flush}
	case n < 39:
		return disk.Step{Kind: disk.Point}
	}
	return disk.Step{Kind: disk.Remount, A: w.r.Intn(2)}
}

// do does a step, and holds the answer against the model.
func (w *world) do(s disk.Step) {
	w.step++
	d, ok := w.m.Disk()
	waited := 0
	if ok {
		waited = d.Waiting()
	}
	ops := w.c.Ops()
	a := w.m.Do(s)
	call, mount := model.Bound(w.g)
	if n := w.c.Ops() - ops; s.Kind == disk.Remount && n > mount || s.Kind != disk.Remount && n > call {
		w.fatal("more operations than the bound", s.Kind, n)
	}
	if w.beyond {
		return
	}
	if a.Err == api.ErrDead {
		w.cuts++
		w.recover(s.Kind)
		return
	}
	if !w.model.Allows(s, a) {
		w.fatal("not allowed", s.Kind, s.A, a.Err)
	}
	if a.Err == api.ErrFull || a.Err == api.ErrReadOnly {
		w.fatal("no room", s.Kind, a.Err)
	}
	if a.Err != nil && a.Err != api.ErrMany {
		return
	}
	switch s.Kind {
	case disk.Write, disk.Trim:
		if d.Waiting() < waited || waited == w.g.Buffer && d.Waiting() == 1 && waited > 1 {
			w.model.Flush()
		}
		if s.Kind == disk.Write {
			w.model.Write(s.A, s.Data)
		} else {
			w.model.Trim(s.A)
		}
	case disk.Flush, disk.Point:
		w.model.Flush()
	case disk.Remount:
		w.settle()
	}
}

// recover mounts the disk behind a cut, with cuts in between now and then.
func (w *world) recover(int) {
	for {
		w.plan(w.r.Intn(3) == 0)
		a := w.m.Do(disk.Step{Kind: disk.Remount, A: w.r.Intn(2)})
		if w.beyond {
			return
		}
		if a.Err == nil {
			break
		}
		if a.Err != api.ErrDead {
			w.fatal("Remount", a.Err)
		}
		w.cuts++
	}
	w.plan(false)
	w.settle()
}

// settle holds all sectors against what may be there behind a mount.
func (w *world) settle() {
	d, ok := w.m.Disk()
	if !ok {
		w.fatal("no disk")
	}
	var l [][]byte
	for key := range d.Sectors() {
		b, err := d.Read(key)
		if w.beyond {
			return
		}
		if err != nil {
			if err == api.ErrDead {
				w.cuts++
				w.recover(disk.Read)
				return
			}
			w.fatal("Read", key, err)
		}
		l = append(l, b)
	}
	if n, ok := w.model.Settle(l); !ok {
		w.fatal("no front", n)
	}
	w.twins()
}

// twins mounts copies of the chip, with points and without, once and twice: they are the same.
func (w *world) twins() {
	if w.r.Intn(4) > 0 {
		return
	}
	var l [4][]slot
	for i := range l {
		c := w.c.Clone()
		c.Plan(nil)
		f, err := ftl.Mount(c, w.g, i%2 == 1)
		if err == nil && i >= 2 {
			f, err = ftl.Mount(c, w.g, i%2 == 1)
		}
		if err != nil {
			w.fatal("Mount", err)
		}
		for _, s := range f.Slots() {
			l[i] = append(l[i], slot{s.Key, s.Meta.Kind, s.Meta.Key, s.Meta.Seq})
		}
		if !slices.Equal(l[i], l[0]) {
			w.fatal("other slots", i, l[0], l[i])
		}
	}
}

type slot struct{ key, kind, of, seq int }

// run goes on for so many steps; false, if the chip went beyond what the disk is promised for.
func (w *world) run(steps int) bool {
	for range steps {
		if w.r.Intn(20) == 0 {
			w.plan(w.r.Intn(2) == 0)
		}
		w.do(w.random())
		if w.beyond {
			return false
		}
		w.rules()
	}
	return true
}

// rules looks whether a page was programmed out of order, or a bad block touched.
func (w *world) rules() {
	if w.c.Broken() != 0 {
		w.fatal("a rule of the chip is broken")
	}
	d, ok := w.m.Disk()
	for b := range w.g.Blocks {
		bad := w.c.Marked(b)
		for _, s := range listed(d, ok) {
			bad = bad || s.Meta.Kind == api.Bad && s.Meta.Key == b
		}
		var cells []byte
		for i := range w.g.Pages {
			cells = append(cells, w.c.Cells(api.Place{Block: b, Page: i})...)
		}
		was, known := w.bad[b]
		if known && !bytes.Equal(cells, was) {
			w.fatal("a bad block is touched", b)
		}
		if bad && !known {
			w.bad[b] = cells
		}
	}
}

// listed is the slots of the disk, if there is one.
func listed(d *disk.Disk, ok bool) []table.Slot {
	if !ok {
		return nil
	}
	return d.FTL().Slots()
}

// TestMending (P0.8): whatever at most t bits of a codeword are turned, it is mended; of more it is told that it is
// not, or it comes to another codeword.
func TestMending(t *testing.T) {
	r := rand.New(rand.NewSource(1))
	for _, g := range append(geometries(), api.Geometry{Sector: 1024, M: 14, T: 16}) {
		c, err := encode.New(g.M, g.T, g.Sector+api.MetaBytes)
		if err != nil {
			t.Fatal(g, err)
		}
		for range 60 {
			data := make([]byte, c.Data())
			r.Read(data)
			parity, _ := c.Fast(data)
			n := r.Intn(3 * g.T)
			a, b := data, parity
			for _, at := range r.Perm(c.Bits())[:n] {
				a, b, _ = c.Flip(a, b, at)
			}
			x, y, places, err := decode.New(c).Decode(a, b)
			mended := err == nil && bytes.Equal(x, data) && bytes.Equal(y, parity) && len(places) == n
			if n <= g.T && !mended || n > g.T && err != api.ErrMany && (mended || !c.Right(x, y)) {
				t.Fatal(g, n, err)
			}
		}
	}
}

// TestWhole (P0.9, P0.11, P0.12, P0.13): scripts with turned bits, fails and cuts, on chips of all proportions.
func TestWhole(t *testing.T) {
	within, cuts := 0, 0
	for seed := range int64(140) {
		w := begin(t, seed, seed%3 > 0)
		if w.run(150) {
			within++
		}
		cuts += w.cuts
	}
	t.Log(within, cuts)
	if within < 70 || cuts < 100 {
		t.Error("too little was tried", within, cuts)
	}
}
