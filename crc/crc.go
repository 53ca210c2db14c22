// Package crc: sums: see ../shared/doc/01-crc.md.
package crc

const (
	// turned is the polynomial 0x04C11DB7 with its bits turned round: x^31 stands in bit 0.
	turned = 0xEDB88320
	// one is the polynomial 1 in the same writing.
	one = 1 << 31
	// ones is what a sum begins with, and what is xored on at its end.
	ones = 1<<32 - 1
	// longest is how many bytes Join and Flipped reckon with at most.
	longest = 1 << 20
)

// halves holds what the lowest four bits of a state make of the rest.
var halves = [16]uint32{
	0x00000000, 0x1DB71064, 0x3B6E20C8, 0x26D930AC,
	0x76DC4190, 0x6B6B51F4, 0x4DB26158, 0x5005713C,
	0xEDB88320, 0xF00F9344, 0xD6D6A3E8, 0xCB61B38C,
	0x9B64C2B0, 0x86D3D2D4, 0xA00AE278, 0xBDBDF21C,
}

// Sum is a CRC-32 of what was written up to now.
type Sum struct{ state uint32 }

// Of is the CRC-32 of b.
func Of(b []byte) int {
	s := New()
	s.Write(b)
	return s.Value()
}

// New is the sum of nothing yet.
func New() *Sum { return &Sum{state: ones} }

// Write goes on with all bytes of b.
func (s *Sum) Write(b []byte) { hand(b, s.Byte) }

// hand gives the bytes of b on, one by one.
func hand(b []byte, to func(c byte)) {
	for _, c := range b {
		to(c)
	}
}

// Byte goes on with c.
func (s *Sum) Byte(c byte) {
	x := s.state ^ uint32(c)
	x = x>>4 ^ halves[x&15]
	s.state = x>>4 ^ halves[x&15]
}

// Value is the sum of what was written up to now.
func (s *Sum) Value() int { return int(s.state ^ ones) }

// Join is the sum of bytes whose sum is a with n others behind whose sum is b.
func Join(a, b, n int) int {
	if n < 0 || n > longest {
		return 0
	}
	return int(times(uint32(a), power(8*n)) ^ uint32(b))
}

// Flipped is what the sum of n bytes changes by when that bit is turned.
func Flipped(n, bit int) int {
	if n < 0 || n > longest || bit < 0 || bit >= 8*n {
		return 0
	}
	// Of a message's bits the first is the highest coefficient, and all stand above x^32.
	return int(power(8*n - 1 - bit + 32))
}

// times is the product of two polynomials, reduced.
func times(a, b uint32) uint32 {
	var p uint32
	for ; a != 0; a <<= 1 {
		if a&one != 0 {
			p ^= b
		}
		b = up(b)
	}
	return p
}

// up is x times a, reduced.
func up(a uint32) uint32 {
	if a&1 != 0 {
		return a>>1 ^ turned
	}
	return a >> 1
}

// power is x to the n-th, reduced.
func power(n int) uint32 {
	p, square := uint32(one), uint32(one>>1)
	for ; n > 0; n >>= 1 {
		if n&1 != 0 {
			p = times(p, square)
		}
		square = times(square, square)
	}
	return p
}
