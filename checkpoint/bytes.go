package checkpoint

import "shale/api"

const (
	// wide is how many bytes a number has.
	wide = 4
	// ahead is how many bytes of a piece stand ahead of its part.
	ahead = 3 * wide
	// leastSize is the least size of a piece.
	leastSize = 16
)

// writer lays numbers down, the lowest byte first.
type writer struct{ bytes []byte }

func (w *writer) number(n int) {
	for i := range wide {
		w.bytes = append(w.bytes, byte(n>>(8*i)))
	}
}

// reader takes what a writer laid down.
type reader struct {
	bytes []byte
	early bool // whether the bytes ended too early
}

func (r *reader) number() int {
	if len(r.bytes) < wide {
		r.early, r.bytes = true, nil
		return 0
	}
	n := 0
	for i := range wide {
		n |= int(r.bytes[i]) << (8 * i)
	}
	r.bytes = r.bytes[wide:]
	return n
}

// count takes how many things of so many numbers follow; none, if the bytes end ahead of that.
func (r *reader) count(numbers int) int {
	n := r.number()
	if n > len(r.bytes)/(numbers*wide) {
		r.early = true
		return 0
	}
	return n
}

// needed is how many pieces so many bytes make.
func needed(bytes, size int) int {
	part := size - ahead
	return max(1, (bytes+part-1)/part)
}

// isSize tells whether pieces may have that size.
func isSize(size int) bool { return size >= leastSize && size <= api.MaxSector }

// Pieces is b in pieces of a size, of a number.
func Pieces(b []byte, size, number int) ([][]byte, error) {
	if !isSize(size) {
		return nil, api.ErrSize
	}
	if !is(number) {
		return nil, api.ErrRecord
	}
	n, part := needed(len(b), size), size-ahead
	if n > api.MaxPages {
		return nil, api.ErrMany
	}
	var l [][]byte
	for i := range n {
		w := &writer{bytes: make([]byte, 0, size)}
		w.number(number)
		w.number(i)
		w.number(len(b))
		w.bytes = append(w.bytes, b[i*part:min(len(b), (i+1)*part)]...)
		l = append(l, append(w.bytes, make([]byte, size-len(w.bytes))...))
	}
	return l, nil
}

// Join is the number and the bytes of pieces.
func Join(l [][]byte) (int, []byte, error) {
	if !oneSize(l) {
		return 0, nil, api.ErrSize
	}
	first := &reader{bytes: l[0]}
	number, _, length := first.number(), first.number(), first.number()
	size := len(l[0])
	if len(l) > api.MaxPages || !is(number) || needed(length, size) != len(l) {
		return 0, nil, api.ErrRecord
	}
	var b []byte
	for i, piece := range l {
		r := &reader{bytes: piece}
		if r.number() != number || r.number() != i || r.number() != length {
			return 0, nil, api.ErrRecord
		}
		b = append(b, r.bytes...)
	}
	return number, b[:length], nil
}

// oneSize tells whether there are pieces, all of one size that may be.
func oneSize(l [][]byte) bool {
	for _, piece := range l {
		if len(piece) != len(l[0]) || !isSize(len(piece)) {
			return false
		}
	}
	return len(l) > 0
}
