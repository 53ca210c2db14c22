package pool

import (
	"math/rand"
	"slices"
	"testing"

	"shale/api"
)

func TestExamples(t *testing.T) {
	p := New()
	if p.Add(3, 5) != nil || p.Add(1, 5) != nil || p.Add(2, 0) != nil {
		t.Error("Add")
	}
	for i, want := range []int{2, 1} {
		if b, ok := p.Take(); b != want || !ok {
			t.Error(i, b)
		}
	}
	if b, ok := p.TakeMost(); b != 3 || !ok {
		t.Error(b)
	}
	if b, ok := p.Take(); b != 0 || ok {
		t.Error("of none", b)
	}
}

func TestErrors(t *testing.T) {
	p := New()
	for _, x := range []struct {
		block, worn int
		err         error
	}{
		{0, 0, nil}, {63, api.MaxNum, nil}, {0, -1, api.ErrNumber}, {63, 5, api.ErrOrder}, {64, 0, api.ErrNumber}, {-1, 0, api.ErrNumber},
		{1, -1, api.ErrNumber}, {1, api.MaxNum + 1, api.ErrNumber}, {1 << 62, 0, api.ErrNumber}, {0, 9, api.ErrOrder},
	} {
		if err := p.Add(x.block, x.worn); err != x.err {
			t.Error(x, err)
		}
	}
	if p.Len() != 2 || p.Has(1) || p.Has(-1) || p.Has(64) || p.Remove(64) || p.Remove(1) {
		t.Error("an error changed something")
	}
	if _, worn, _ := p.Least(); worn != 0 {
		t.Error("Least")
	}
}

func TestEmpty(t *testing.T) {
	p := New()
	if b, ok := p.TakeMost(); b != 0 || ok {
		t.Error("TakeMost")
	}
	if b, w, ok := p.Least(); b != 0 || w != 0 || ok {
		t.Error("Least")
	}
	for range p.Each() {
		t.Error("Each")
	}
}

type free struct{ block, worn int }

// plain holds the same in a list that is sorted anew each time.
type plain []free

func (l plain) sort() plain {
	slices.SortFunc(l, func(a, b free) int {
		if a.worn != b.worn {
			return a.worn - b.worn
		}
		return a.block - b.block
	})
	return l
}

func (l plain) find(block int) int {
	return slices.IndexFunc(l, func(x free) bool { return x.block == block })
}

func check(t *testing.T, p *Pool, l plain) {
	t.Helper()
	var got plain
	for b, w := range p.Each() {
		got = append(got, free{b, w})
	}
	if !slices.Equal(got, l) || p.Len() != len(l) {
		t.Fatal(got, l)
	}
	if b, w, ok := p.Least(); ok != (len(l) > 0) || ok && (free{b, w}) != l[0] {
		t.Fatal("Least")
	}
}

func TestPlain(t *testing.T) {
	r := rand.New(rand.NewSource(1))
	p, l := New(), plain(nil)
	for range 5000 {
		b, w := r.Intn(64), r.Intn(4)
		at := l.find(b)
		if p.Has(b) != (at >= 0) {
			t.Fatal("Has")
		}
		switch r.Intn(5) {
		case 0, 1:
			if err := p.Add(b, w); (err == nil) != (at < 0) || err != nil && err != api.ErrOrder {
				t.Fatal("Add", err)
			}
			if at < 0 {
				l = append(l, free{b, w}).sort()
			}
		case 2:
			if p.Remove(b) != (at >= 0) {
				t.Fatal("Remove")
			}
			if at >= 0 {
				l = slices.Delete(l, at, at+1)
			}
		case 3:
			if x, ok := p.Take(); ok != (len(l) > 0) || ok && x != l[0].block {
				t.Fatal("Take")
			} else if ok {
				l = l[1:]
			}
		case 4:
			x, ok := p.TakeMost()
			if ok != (len(l) > 0) {
				t.Fatal("TakeMost")
			}
			if ok {
				at := slices.IndexFunc(l, func(y free) bool { return y.worn == l[len(l)-1].worn })
				if l[at].block != x {
					t.Fatal("TakeMost", x)
				}
				l = slices.Delete(l, at, at+1)
			}
		}
		check(t, p, l)
	}
}

// TestEach: as they are when the going over begins, again and again, left early.
func TestEach(t *testing.T) {
	p := New()
	for b := range 5 {
		p.Add(b, 5-b)
	}
	each := p.Each()
	p.Remove(0)
	for range 2 {
		var l []int
		for b := range each {
			l = append(l, b)
			if len(l) == 2 {
				break
			}
		}
		if !slices.Equal(l, []int{4, 3}) {
			t.Error(l)
		}
	}
	var l []int
	for b := range each {
		l = append(l, b)
		p.Take()
		p.Add(9, 0)
	}
	if !slices.Equal(l, []int{4, 3, 2, 1}) {
		t.Error("as they are when it begins", l)
	}
}
