package disk

import (
	"bytes"
	"testing"

	"shale/api"
	"shale/chip"
	"shale/ftl"
)

func example() api.Geometry {
	return api.Geometry{Blocks: 10, Pages: 16, Sector: 16, M: 10, T: 2, Levels: 2, Reserve: 0, Wear: 4, Buffer: 8}
}

func chipOf(t *testing.T, g api.Geometry, marked ...int) *chip.Chip {
	t.Helper()
	b, p, s, l, err := ftl.Shape(g)
	if err != nil {
		t.Fatal(err)
	}
	c, err := chip.New(b, p, s, l, marked, nil)
	if err != nil {
		t.Fatal(err)
	}
	return c
}

func formatted(t *testing.T, g api.Geometry) (*Disk, *chip.Chip) {
	t.Helper()
	c := chipOf(t, g)
	d, err := Format(c, g)
	if err != nil {
		t.Fatal(err)
	}
	return d, c
}

func sector(n int) []byte { return bytes.Repeat([]byte{byte(n)}, 16) }

func reads(t *testing.T, d *Disk, key, want int) {
	t.Helper()
	if b, err := d.Read(key); !bytes.Equal(b, sector(want)) || err != nil {
		t.Error(key, b, err)
	}
}

func TestExamples(t *testing.T) {
	m, err := New(chipOf(t, example()), example())
	if err != nil {
		t.Fatal(err)
	}
	x := sector(7)
	for i, y := range []struct {
		s    Step
		want []byte
		err  error
	}{
		{Step{Kind: Write, A: 0, Data: x}, nil, nil}, {Step{Kind: Read, A: 0}, x, nil}, {Step{Kind: Remount}, nil, nil}, {Step{Kind: Read, A: 0}, sector(0), nil},
		{Step{Kind: Write, A: 0, Data: x}, nil, nil}, {Step{Kind: Flush}, nil, nil}, {Step{Kind: Remount}, nil, nil}, {Step{Kind: Read, A: 0}, x, nil},
		{Step{Kind: Trim, A: 0}, nil, nil}, {Step{Kind: Read, A: 0}, sector(0), nil}, {Step{Kind: Read, A: -1}, nil, api.ErrNumber},
		{Step{Kind: Cut, A: 1}, nil, nil}, {Step{Kind: Write, A: 0, Data: x}, nil, nil}, {Step{Kind: Flush}, nil, api.ErrDead}, {Step{Kind: Read, A: 0}, nil, api.ErrMount}, {Step{Kind: Remount}, nil, nil},
		{Step{Kind: Read, A: 0}, x, nil},
	} {
		if a := m.Do(y.s); !bytes.Equal(a.Data, y.want) || a.Err != y.err {
			t.Error(i, a)
		}
	}
}

func TestErrors(t *testing.T) {
	g := example()
	g.Wear = 0
	c := chipOf(t, example())
	if d, err := Format(c, g); d != nil || err != api.ErrGeometry {
		t.Error("Format", err)
	}
	if d, err := Mount(c, g, true); d != nil || err != api.ErrGeometry {
		t.Error("Mount", err)
	}
	if m, err := New(c, g); m != nil || err != api.ErrGeometry {
		t.Error("New", err)
	}
	if l, err := Run(c, g, nil); len(l) != 0 || err != api.ErrGeometry {
		t.Error("Run", err)
	}
	d, _ := formatted(t, example())
	for _, key := range []int{-1, 33, 1 << 62} {
		_, err := d.Read(key)
		if err != api.ErrNumber || d.Write(key, nil) != api.ErrNumber || d.Trim(key) != api.ErrNumber {
			t.Error(key, err)
		}
	}
	for _, n := range []int{0, 15, 17} {
		if err := d.Write(3, make([]byte, n)); err != api.ErrSize {
			t.Error(n, err)
		}
	}
	if d.Waiting() != 0 || d.Sectors() != 33 || d.FTL().Stats().Free != 10 {
		t.Error("an error changed something")
	}
}

func TestWaits(t *testing.T) {
	d, c := formatted(t, example())
	for k := range 8 {
		if err := d.Write(k, sector(k+1)); err != nil {
			t.Fatal(err)
		}
	}
	if d.Waiting() != 8 || c.Ops() != 0 {
		t.Error("they wait", d.Waiting())
	}
	if d.Write(3, sector(50)) != nil || d.Trim(4) != nil || d.Waiting() != 8 || c.Ops() != 0 {
		t.Error("one that waits needs no place")
	}
	reads(t, d, 3, 50)
	reads(t, d, 4, 0)
	if d.Write(9, nil) != api.ErrSize || d.Write(99, nil) != api.ErrNumber || c.Ops() != 0 {
		t.Error("an error ahead of the Flush")
	}
	if d.Write(9, sector(9)) != nil || d.Waiting() != 1 || d.FTL().Stats().Batch != 1 {
		t.Error("the ninth", d.Waiting())
	}
	for k, want := range []int{1, 2, 3, 50, 0, 6, 7, 8, 0, 9} {
		reads(t, d, k, want)
	}
	for k := range 7 {
		d.Trim(10 + k)
	}
	if d.Waiting() != 8 || d.Trim(20) != nil || d.Waiting() != 1 || d.FTL().Stats().Batch != 2 {
		t.Error("the same of Trim")
	}
	if d.Flush() != nil || d.Waiting() != 0 || d.FTL().Stats().Batch != 3 || d.Flush() != nil || d.FTL().Stats().Batch != 3 {
		t.Error("Flush")
	}
	m, err := Mount(c, example(), true)
	if err != nil {
		t.Fatal(err)
	}
	for k, want := range []int{1, 2, 3, 50, 0, 6, 7, 8, 0, 9} {
		reads(t, m, k, want)
	}
}

// TestFlushFails: all goes on waiting; what has no place does not wait.
func TestFlushFails(t *testing.T) {
	d, c := formatted(t, example())
	for k := range 8 {
		d.Write(k, sector(k+1))
	}
	c.Plan([]api.Fault{{Op: 3, Kind: api.Cut}})
	if err := d.Write(8, sector(9)); err != api.ErrDead || d.Waiting() != 8 {
		t.Error(err, d.Waiting())
	}
	reads(t, d, 7, 8)
	if _, err := d.Read(8); err != api.ErrDead || d.Flush() != api.ErrDead || d.Point() != api.ErrDead || d.Trim(8) != api.ErrDead || d.Trim(7) != nil {
		t.Error(err)
	}
	c.Power()
	m, err := Mount(c, example(), false)
	if err != nil || m.Waiting() != 0 {
		t.Fatal(err)
	}
	for k := range 9 {
		reads(t, m, k, 0)
	}
	// There is no room: it says so, and what is there stays.
	g := example()
	c = chipOf(t, g, 1, 2, 3, 4, 5, 6, 7, 8)
	f, err := Format(c, g)
	if err != nil {
		t.Fatal(err)
	}
	f.Write(0, sector(1))
	for i, want := range []error{api.ErrFull, api.ErrReadOnly} {
		if err := f.Flush(); err != want || f.Waiting() != 1 {
			t.Error(i, err)
		}
	}
	if f.Point() != api.ErrReadOnly {
		t.Error("Point")
	}
	reads(t, f, 0, 1)
	reads(t, f, 1, 0)
}

func TestPoint(t *testing.T) {
	d, _ := formatted(t, example())
	d.Write(1, sector(1))
	if err := d.Point(); err != nil || d.Waiting() != 0 || d.FTL().Stats().Pieces != 7 || d.FTL().Stats().Batch != 1 {
		t.Error(err, d.FTL().Stats())
	}
	for n := range 8 {
		for k := range 8 {
			d.Write(k, sector(n))
		}
	}
	if err := d.Point(); err != api.ErrMany || d.Waiting() != 0 {
		t.Error(err, d.Waiting())
	}
}

func TestMachine(t *testing.T) {
	c := chipOf(t, example())
	m, err := New(c, example())
	if err != nil || m.Chip() != c {
		t.Fatal(err)
	}
	for _, k := range []int{0, 8, -1, 1 << 62} {
		if a := m.Do(Step{Kind: k, A: 1, Data: sector(1)}); a.Err != api.ErrStep || len(a.Data) != 0 {
			t.Error(k, a)
		}
	}
	m.Do(Step{Kind: Write, A: 1, Data: sector(1)})
	ops := c.Ops()
	// The power goes at the second operation from now on; the plan there was is gone.
	c.Plan([]api.Fault{{Op: ops, Kind: api.Cut}})
	if a := m.Do(Step{Kind: Cut, A: 1, B: 3}); a.Err != nil || len(a.Data) != 0 || c.Ops() != ops {
		t.Error("Cut", a)
	}
	if a := m.Do(Step{Kind: Point}); a.Err != api.ErrDead || c.Ops() != ops+2 || c.On() || !bytes.Equal(c.Cells(api.Place{Page: 1})[3:], bytes.Repeat([]byte{255}, 48)) || c.Cells(api.Place{Page: 1})[0] == 255 {
		t.Error("Point", a, c.Ops())
	}
	if d, ok := m.Disk(); d != nil || ok {
		t.Error("it is mounted")
	}
	for _, k := range []int{Read, Write, Trim, Flush, Point} {
		if a := m.Do(Step{Kind: k, A: -5}); a.Err != api.ErrMount || len(a.Data) != 0 {
			t.Error(k, a)
		}
	}
	if a := m.Do(Step{Kind: 99}); a.Err != api.ErrStep {
		t.Error("the order", a)
	}
	if a := m.Do(Step{Kind: Cut, A: -3}); a.Err != nil {
		t.Error(a)
	}
	if a := m.Do(Step{Kind: Remount, A: 1}); a.Err != api.ErrDead {
		t.Error("the first operation of the mount is cut", a)
	}
	if a := m.Do(Step{Kind: Remount, A: -1}); a.Err != nil || !c.On() {
		t.Error(a)
	}
	if d, ok := m.Disk(); d == nil || !ok {
		t.Error("it is not mounted")
	}
}

// TestCutFar: a Cut that is further off than may be.
func TestCutFar(t *testing.T) {
	c := chipOf(t, example())
	m, _ := New(c, example())
	m.Do(Step{Kind: Cut, A: 1 << 62, B: -1})
	p := api.Place{}
	for i := range 10001 {
		if _, err := c.Read(p, 0); (err == api.ErrDead) != (i == 10000) {
			t.Fatal(i, err)
		}
	}
}

// TestPoints: Remount goes by points, or not.
func TestPoints(t *testing.T) {
	for _, a := range []int{0, 1, -9} {
		c := chipOf(t, example())
		m, _ := New(c, example())
		m.Do(Step{Kind: Write, A: 1, Data: sector(1)})
		m.Do(Step{Kind: Point})
		m.Do(Step{Kind: Write, A: 2, Data: sector(2)})
		if x := m.Do(Step{Kind: Remount, A: a}); x.Err != nil {
			t.Error(x)
		}
		d, _ := m.Disk()
		reads(t, d, 1, 1)
		reads(t, d, 2, 0)
	}
}

func TestRun(t *testing.T) {
	g := example()
	steps := []Step{{Kind: Write, A: 3, Data: sector(3)}, {Kind: 77}, {Kind: Read, A: 3}, {Kind: Flush}}
	l, err := Run(chipOf(t, g), g, steps)
	if err != nil || len(l) != 4 || l[0].Err != nil || l[1].Err != api.ErrStep || !bytes.Equal(l[2].Data, sector(3)) || l[3].Err != nil {
		t.Error(l, err)
	}
	steps[0].Data[0] = 99
	if l[2].Data[0] != 3 {
		t.Error("memory")
	}
	many := make([]Step, api.MaxSteps+1)
	c := chipOf(t, g)
	bad := g
	bad.T = 0
	if l, err := Run(c, bad, many); len(l) != 0 || err != api.ErrMany {
		t.Error("too many", err)
	}
	if l, err := Run(c, g, many[1:]); len(l) != api.MaxSteps || err != nil {
		t.Error("as many as may be", err)
	}
	if l, err := Run(c, g, nil); len(l) != 0 || err != nil {
		t.Error("none", err)
	}
}

func TestMemory(t *testing.T) {
	d, _ := formatted(t, example())
	b := sector(5)
	d.Write(1, b)
	b[0] = 9
	x, _ := d.Read(1)
	x[1] = 9
	reads(t, d, 1, 5)
	d.Flush()
	x, _ = d.Read(1)
	x[1] = 9
	reads(t, d, 1, 5)
	x, _ = d.Read(2)
	x[1] = 9
	reads(t, d, 2, 0)
}
