package disk

import (
	"shale/api"
	"shale/chip"
)

// The numbers of the chapter.
const (
	Read    = 1 // A sector
	Write   = 2 // A sector, Data
	Trim    = 3 // A sector
	Flush   = 4
	Remount = 5 // A: 0 without points, else with them
	Point   = 6
	Cut     = 7 // at the A-th operation of the chip from now on; B says how much is done
)

// furthest is how far off a Cut is at most.
const furthest = 10000

// Step is one thing that happens.
type Step struct {
	Kind, A, B int
	Data       []byte
}

// Answer is what came of a step.
type Answer struct {
	Data []byte
	Err  error
}

// Machine is a chip with a disk, as long as one is mounted.
type Machine struct {
	c *chip.Chip
	g api.Geometry
	d *Disk // nil: none is mounted
}

// New is a machine whose disk was formatted.
func New(c *chip.Chip, g api.Geometry) (*Machine, error) {
	d, err := Format(c, g)
	if err != nil {
		return nil, err
	}
	return &Machine{c: c, g: g, d: d}, nil
}

// Do does a step.
func (m *Machine) Do(s Step) Answer {
	switch s.Kind {
	case Remount:
		return Answer{Err: m.remount(s.A != 0)}
	case Cut:
		return Answer{Err: m.cut(s.A, s.B)}
	}
	do, ok := calls()[s.Kind]
	switch {
	case !ok:
		return Answer{Err: api.ErrStep}
	case m.d == nil:
		return Answer{Err: api.ErrMount}
	}
	data, err := do(m.d, s)
	if err == api.ErrDead {
		m.d = nil
	}
	return Answer{Data: data, Err: err}
}

// calls are the steps that the disk does.
func calls() map[int]func(d *Disk, s Step) ([]byte, error) {
	return map[int]func(d *Disk, s Step) ([]byte, error){
		Read:  (*Disk).doRead,
		Write: (*Disk).doWrite,
		Trim:  (*Disk).doTrim,
		Flush: (*Disk).doFlush,
		Point: (*Disk).doPoint,
	}
}

func (d *Disk) doRead(s Step) ([]byte, error)  { return d.Read(s.A) }
func (d *Disk) doWrite(s Step) ([]byte, error) { return nil, d.Write(s.A, s.Data) }
func (d *Disk) doTrim(s Step) ([]byte, error)  { return nil, d.Trim(s.A) }
func (d *Disk) doFlush(Step) ([]byte, error)   { return nil, d.Flush() }
func (d *Disk) doPoint(Step) ([]byte, error)   { return nil, d.Point() }

// remount turns the power on, and mounts the disk anew.
func (m *Machine) remount(points bool) error {
	m.c.Power()
	d, err := Mount(m.c, m.g, points)
	m.d = d
	return err
}

// cut lets the power go at a later operation, so much of it done.
func (m *Machine) cut(at, done int) error {
	at = max(0, min(at, furthest))
	return m.c.Plan([]api.Fault{{Op: m.c.Ops() + at, Kind: api.Cut, N: done}})
}

// Disk is the disk that is mounted.
func (m *Machine) Disk() (*Disk, bool) { return m.d, m.d != nil }

// Chip is the machine's chip.
func (m *Machine) Chip() *chip.Chip { return m.c }

// Run does all steps, from a Format on.
func Run(c *chip.Chip, g api.Geometry, l []Step) ([]Answer, error) {
	if len(l) > api.MaxSteps {
		return nil, api.ErrMany
	}
	m, err := New(c, g)
	if err != nil {
		return nil, err
	}
	var answers []Answer
	for _, s := range l {
		answers = append(answers, m.Do(s))
	}
	return answers, nil
}
