package encode

import "shale/binpoly"

// register is a rest by the generator: bit i of its words is the coefficient of x^i.
type register []uint64

// newRegister has room for the coefficients below the degree, and is 0.
func newRegister(degree int) register { return make(register, (degree+63)/64) }

// lowBits are the coefficients of p below the degree.
func lowBits(p binpoly.Poly, degree int) register {
	r := newRegister(degree)
	for i := range degree {
		r[i/64] |= uint64(p.Bit(i)) << (i % 64)
	}
	return r
}

// add adds s.
func (r register) add(s register) {
	for i, w := range s {
		r[i] ^= w
	}
}

// shift moves all n places up, n from 1 to 63, and lets no bit from the degree on stand.
func (r register) shift(n, degree int) {
	for i := len(r) - 1; i > 0; i-- {
		r[i] = r[i]<<n | r[i-1]>>(64-n)
	}
	r[0] <<= n
	if degree%64 != 0 {
		r[len(r)-1] &= 1<<(degree%64) - 1
	}
}

// top are the n highest coefficients below the degree, n from 1 to 8 and the degree at most.
func (r register) top(n, degree int) byte {
	at := degree - n
	x := r[at/64] >> (at % 64)
	if at%64+n > 64 {
		x |= r[at/64+1] << (64 - at%64)
	}
	return byte(x & (1<<n - 1))
}

// bytes are the first n bytes of it.
func (r register) bytes(n int) []byte {
	b := make([]byte, n)
	for i := range b {
		b[i] = byte(r[i/8] >> (i % 8 * 8))
	}
	return b
}

// takeBit goes on with one bit of data.
func (c *Code) takeBit(r register, bit byte) {
	over := r.top(1, c.degree) ^ bit
	r.shift(1, c.degree)
	if over != 0 {
		r.add(c.low)
	}
}

// takeBits goes on with a byte of data, from its highest bit on.
func (c *Code) takeBits(r register, b byte) {
	for i := 7; i >= 0; i-- {
		c.takeBit(r, b>>i&1)
	}
}

// takeByte goes on with a byte of data by the table.
func (c *Code) takeByte(r register, b byte) {
	n := min(8, c.degree)
	// A register of less than 8 bits goes over the degree as a whole, and further bits of b behind it.
	over := r.top(n, c.degree)<<(8-n) ^ b
	r.shift(8, c.degree)
	r.add(c.table[over])
}

// makeTable tells of each byte what the register 0 becomes by it.
func (c *Code) makeTable() []register {
	table := make([]register, 256)
	for b := range table {
		table[b] = newRegister(c.degree)
		c.takeBits(table[b], byte(b))
	}
	return table
}
