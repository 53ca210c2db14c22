package drive

import (
	"bytes"
	"math/rand"
	"testing"

	"shale/api"
	"shale/chip"
)

func at(block, page int) api.Place { return api.Place{Block: block, Page: page} }

func made(t *testing.T, marked []int, plan ...api.Fault) (*Drive, *chip.Chip) {
	t.Helper()
	c, err := chip.New(8, 4, 2, 2, marked, plan)
	if err != nil {
		t.Fatal(err)
	}
	return New(c), c
}

func TestExamples(t *testing.T) {
	d, c := made(t, []int{3})
	if n, err := d.Append(0, []byte{1, 2}); n != 0 || err != api.ErrOrder {
		t.Error("closed")
	}
	d.Fresh(0)
	for i := range 2 {
		if n, err := d.Append(0, []byte{1, 2}); n != i || err != nil {
			t.Error(n, err)
		}
	}
	if d.Next(0) != 2 {
		t.Error("Next")
	}
	if n, err := d.Append(3, []byte{1, 2}); n != 0 || err != api.ErrBad {
		t.Error("bad")
	}
	if d.Erase(0) != nil || d.Next(0) != 0 || d.Chip() != c {
		t.Error("Erase")
	}
}

func TestNew(t *testing.T) {
	d, _ := made(t, []int{3, 7})
	for b := -2; b < 12; b++ {
		if d.Next(b) != 4 || d.Bad(b) != (b == 3 || b == 7 || b < 0 || b > 7) {
			t.Error(b)
		}
	}
}

func TestErrors(t *testing.T) {
	d, c := made(t, []int{3})
	for _, b := range []int{-1, 8, 1 << 62, -1 << 63} {
		if n, err := d.Append(b, []byte{1}); n != 0 || err != api.ErrOrder {
			t.Error("Append", b)
		}
		if d.Erase(b) != api.ErrOrder {
			t.Error("Erase", b)
		}
		if x, err := d.Read(at(b, 0), 0); len(x) != 0 || err != api.ErrOrder {
			t.Error("Read", b)
		}
		d.Close(b)
		d.Retire(b)
		d.Fresh(b)
	}
	if _, err := d.Append(3, []byte{1}); err != api.ErrBad || d.Erase(3) != api.ErrBad {
		t.Error("bad")
	}
	if x, err := d.Read(at(3, 9), 9); len(x) != 0 || err != api.ErrBad {
		t.Error("Read of a bad one")
	}
	if _, err := d.Append(0, []byte{1}); err != api.ErrOrder {
		t.Error("the order")
	}
	d.Fresh(0)
	for _, n := range []int{0, 1, 3} {
		if _, err := d.Append(0, make([]byte, n)); err != api.ErrSize || d.Next(0) != 0 {
			t.Error("size")
		}
	}
	if _, err := d.Read(at(0, 0), 2); err != api.ErrOrder {
		t.Error("level")
	}
	if a, b, e := d.Count(); a != 5 || b != 0 || e != 0 || c.Ops() != 0 {
		t.Error(d.Count())
	}
}

func TestFull(t *testing.T) {
	d, c := made(t, nil)
	d.Erase(2)
	for i := range 4 {
		if n, err := d.Append(2, []byte{byte(i), 0}); n != i || err != nil {
			t.Error(n, err)
		}
	}
	if _, err := d.Append(2, []byte{1, 1}); err != api.ErrOrder || d.Next(2) != 4 {
		t.Error("full", err)
	}
	b, err := d.Read(at(2, 3), 1)
	if !bytes.Equal(b, []byte{3, 0}) || err != nil {
		t.Error(b)
	}
	if a, b, e := d.Count(); a != 1 || b != 4 || e != 1 || c.Broken() != 0 {
		t.Error(d.Count())
	}
}

func TestFails(t *testing.T) {
	d, c := made(t, nil, api.Fault{Op: 1, Kind: api.Fail}, api.Fault{Op: 3, Kind: api.Fail}, api.Fault{Op: 5, Kind: api.Cut}, api.Fault{Op: 7, Kind: api.Cut, N: 2})
	d.Fresh(0)
	d.Append(0, []byte{1, 2})
	if n, err := d.Append(0, []byte{1, 2}); n != 0 || err != api.ErrFailed || d.Next(0) != 4 {
		t.Error("a program fails", err)
	}
	d.Fresh(0)
	if d.Next(0) != 4 {
		t.Error("Fresh of one that is used")
	}
	if d.Erase(0) != nil || d.Next(0) != 0 {
		t.Error("Erase")
	}
	if d.Erase(0) != api.ErrFailed || d.Next(0) != 4 {
		t.Error("an erase fails")
	}
	d.Fresh(0)
	d.Append(0, []byte{1, 2})
	if n, err := d.Append(0, []byte{1, 2}); n != 0 || err != api.ErrDead || d.Next(0) != 4 {
		t.Error("a program is cut", err)
	}
	c.Power()
	d.Erase(0)
	if d.Erase(0) != api.ErrDead || d.Next(0) != 4 {
		t.Error("an erase is cut")
	}
	d.Fresh(1)
	if _, err := d.Append(1, []byte{1, 2}); err != api.ErrDead || d.Next(1) != 4 || c.Broken() != 0 {
		t.Error("the power is off")
	}
	if a, b, e := d.Count(); a != 0 || b != 5 || e != 4 {
		t.Error(d.Count())
	}
}

func TestCloseRetire(t *testing.T) {
	d, _ := made(t, nil)
	d.Fresh(1)
	d.Append(1, []byte{0, 0})
	d.Close(1)
	if _, err := d.Append(1, []byte{0, 0}); err != api.ErrOrder || d.Next(1) != 4 || d.Bad(1) {
		t.Error("Close")
	}
	d.Retire(2)
	d.Fresh(2)
	if !d.Bad(2) || d.Next(2) != 4 || d.Erase(2) != api.ErrBad {
		t.Error("Retire")
	}
	if _, err := d.Read(at(2, 0), 0); err != api.ErrBad {
		t.Error("Read")
	}
}

// TestRules: whatever it is told, no rule is broken, and no bad block is touched.
func TestRules(t *testing.T) {
	r := rand.New(rand.NewSource(1))
	for range 60 {
		var plan []api.Fault
		for range 40 {
			plan = append(plan, api.Fault{Op: r.Intn(300), Kind: 2 + r.Intn(2), N: r.Intn(4)})
		}
		d, c := made(t, []int{5}, plan...)
		retired := map[int][]byte{5: {255, 255, 255, 255, 255, 255, 255, 255}}
		for range 300 {
			b := r.Intn(10) - 1
			switch r.Intn(12) {
			case 0:
				d.Close(b)
			case 1:
				d.Fresh(b)
			case 2, 3:
				d.Erase(b)
			case 4:
				c.Power()
			case 5:
				if r.Intn(9) == 0 && b >= 0 && b < 8 && retired[b] == nil {
					d.Retire(b)
					for i := range 4 {
						retired[b] = append(retired[b], c.Cells(at(b, i))...)
					}
				}
			default:
				d.Append(b, []byte{byte(r.Intn(256)), byte(r.Intn(256))})
			}
		}
		if c.Broken() != 0 {
			t.Fatal("a rule is broken")
		}
		for b, want := range retired {
			for i := range 4 {
				if !bytes.Equal(c.Cells(at(b, i)), want[2*i:2*i+2]) {
					t.Fatal("a bad block is touched")
				}
			}
		}
	}
}
