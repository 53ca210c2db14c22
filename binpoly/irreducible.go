package binpoly

import "math/bits"

// widest is the highest degree of which Irreducible tells.
const widest = 32

// Irreducible tells whether no polynomial of a lower degree, but 1, divides it.
func (p Poly) Irreducible() bool {
	d := p.Degree()
	if d < 1 || d > widest {
		return false
	}
	w := p.word()
	// x^(2^i) + x is the product of all irreducible polynomials whose degree divides i.
	for i, power := 1, uint64(2); 2*i <= d; i++ {
		power = product(power, power, w, d)
		if common(w, power^2) != 1 {
			return false
		}
	}
	return true
}

// word holds the coefficients of a polynomial of at most 64 of them.
func (p Poly) word() uint64 {
	var w uint64
	for i, b := range p.trim() {
		w |= uint64(b) << (8 * i)
	}
	return w
}

// product is that of a and b, reduced by p, which has degree d.
func product(a, b, p uint64, d int) uint64 {
	var r uint64
	for ; b != 0; b >>= 1 {
		if b&1 != 0 {
			r ^= a
		}
		a <<= 1
		if a>>d&1 != 0 {
			a ^= p
		}
	}
	return r
}

// common is the greatest common divisor.
func common(a, b uint64) uint64 {
	for b != 0 {
		a, b = b, rest(a, b)
	}
	return a
}

// rest is what is left of a, divided by b.
func rest(a, b uint64) uint64 {
	d := bits.Len64(b)
	for n := bits.Len64(a); n >= d; n = bits.Len64(a) {
		a ^= b << (n - d)
	}
	return a
}
