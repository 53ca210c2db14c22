package buffer

import (
	"bytes"
	"math/rand"
	"slices"
	"testing"

	"shale/api"
)

func made(t *testing.T, size, most, sectors int) *Buffer {
	t.Helper()
	b, err := New(size, most, sectors)
	if err != nil {
		t.Fatal(err)
	}
	return b
}

func keys(b *Buffer) []int {
	var l []int
	for _, e := range b.Entries() {
		l = append(l, e.Key)
	}
	return l
}

func TestExamples(t *testing.T) {
	b := made(t, 2, 2, 9)
	for _, x := range []struct{ key, first int }{{3, 1}, {4, 3}, {3, 5}} {
		if err := b.Put(x.key, []byte{byte(x.first), byte(x.first + 1)}); err != nil {
			t.Error(x, err)
		}
	}
	if !slices.Equal(keys(b), []int{4, 3}) {
		t.Error(keys(b))
	}
	if err := b.Drop(5); err != api.ErrFull {
		t.Error(err)
	}
	if err := b.Drop(4); err != nil {
		t.Error(err)
	}
	if e, ok := b.Get(4); !ok || !e.Trim || e.Key != 4 || e.Data != nil {
		t.Error(e)
	}
	if e, ok := b.Get(3); !ok || e.Trim || e.Key != 3 || !bytes.Equal(e.Data, []byte{5, 6}) {
		t.Error(e)
	}
	if err := b.Put(9, []byte{1, 2}); err != api.ErrNumber {
		t.Error(err)
	}
	if err := b.Put(3, []byte{1}); err != api.ErrSize {
		t.Error(err)
	}
}

func TestNew(t *testing.T) {
	for _, x := range []struct {
		size, most, sectors int
		err                 error
	}{
		{1, 1, 1, nil}, {api.MaxSector, api.MaxBuffer, api.MaxNum, nil}, {0, 1, 1, api.ErrGeometry}, {api.MaxSector + 1, 1, 1, api.ErrGeometry},
		{1, 0, 1, api.ErrGeometry}, {1, api.MaxBuffer + 1, 1, api.ErrGeometry}, {1, 1, 0, api.ErrGeometry}, {1, 1, api.MaxNum + 1, api.ErrGeometry}, {-1, -1, -1, api.ErrGeometry},
	} {
		b, err := New(x.size, x.most, x.sectors)
		if err != x.err || (b == nil) != (err != nil) {
			t.Error(x, err)
		}
		if err == nil && (b.Len() != 0 || b.Full() || len(b.Entries()) != 0) {
			t.Error("not empty")
		}
	}
}

func TestErrors(t *testing.T) {
	b := made(t, 2, 2, 9)
	b.Put(0, []byte{1, 2})
	b.Put(8, []byte{3, 4})
	for _, x := range []struct {
		key, size int
		err       error
	}{{-1, 1, api.ErrNumber}, {9, 2, api.ErrNumber}, {1 << 62, 0, api.ErrNumber}, {5, 1, api.ErrSize}, {5, 3, api.ErrSize}, {0, 0, api.ErrSize}, {5, 2, api.ErrFull}} {
		if err := b.Put(x.key, make([]byte, x.size)); err != x.err {
			t.Error(x, err)
		}
	}
	for key, want := range map[int]error{-1: api.ErrNumber, 9: api.ErrNumber, 5: api.ErrFull} {
		if err := b.Drop(key); err != want {
			t.Error(key, err)
		}
	}
	if !slices.Equal(keys(b), []int{0, 8}) || !b.Full() || b.Len() != 2 {
		t.Error("an error changed something")
	}
	for _, key := range []int{5, -1, 9} {
		if e, ok := b.Get(key); ok || e.Key != 0 || e.Trim || e.Data != nil {
			t.Error("Get", key)
		}
	}
	b.Clear()
	if b.Len() != 0 || b.Full() || b.Put(5, []byte{1, 2}) != nil {
		t.Error("Clear")
	}
}

func TestPlain(t *testing.T) {
	r := rand.New(rand.NewSource(1))
	b := made(t, 1, 5, 9)
	var l []api.Entry
	for range 3000 {
		e := api.Entry{Key: r.Intn(9), Trim: r.Intn(3) == 0}
		at := slices.IndexFunc(l, func(x api.Entry) bool { return x.Key == e.Key })
		var err error
		if e.Trim {
			err = b.Drop(e.Key)
		} else {
			e.Data = []byte{byte(r.Intn(256))}
			err = b.Put(e.Key, e.Data)
		}
		if (err != nil) != (at < 0 && len(l) == 5) {
			t.Fatal(err)
		}
		if err == nil {
			if at >= 0 {
				l = slices.Delete(l, at, at+1)
			}
			l = append(l, e)
		}
		got := b.Entries()
		if len(got) != len(l) || b.Len() != len(l) || b.Full() != (len(l) == 5) {
			t.Fatal(got, l)
		}
		for i, e := range l {
			x, ok := b.Get(e.Key)
			for _, y := range []api.Entry{got[i], x} {
				if !ok || y.Key != e.Key || y.Trim != e.Trim || !bytes.Equal(y.Data, e.Data) {
					t.Fatal(i, y, e)
				}
			}
		}
		if r.Intn(40) == 0 {
			b.Clear()
			l = nil
		}
	}
}

// TestEach: as they are when the going over begins, again and again, left early.
func TestEach(t *testing.T) {
	b := made(t, 1, 4, 9)
	each := b.Each()
	for k := range 3 {
		b.Put(k, []byte{byte(k)})
	}
	for range 2 {
		n := 0
		for i, e := range each {
			if i != n || e.Key != n {
				t.Error(i, e)
			}
			n++
			if n == 2 {
				break
			}
		}
	}
	var l []int
	for i, e := range each {
		l = append(l, e.Key)
		b.Put(i, []byte{9})
		e.Data[0] = 77
		if i == 0 {
			b.Clear()
			b.Drop(7)
		}
	}
	if !slices.Equal(l, []int{0, 1, 2}) {
		t.Error(l)
	}
}

func TestMemory(t *testing.T) {
	b := made(t, 2, 4, 9)
	data := []byte{1, 2, 9}[:2]
	b.Put(1, data)
	data[0] = 7
	l := b.Entries()
	l[0].Data[1] = 7
	_ = append(l[0].Data, 7)
	_ = append(l, api.Entry{})
	e, _ := b.Get(1)
	e.Data[0] = 8
	for _, e := range b.Each() {
		e.Data[0] = 8
	}
	if e, _ := b.Get(1); !bytes.Equal(e.Data, []byte{1, 2}) || data[:3][2] != 9 {
		t.Error("memory", e)
	}
}
