package arith

// twist answers the parts of a's and b's product, each of the two a small complex number.
// Nothing is rounded: parts of 16 bits come to 2^31 at most, and a complex128 holds whole numbers up to 2^53.
func twist(a, b uint64) (x, y uint64) {
	product := small(a) * small(b)
	return whole(real(product)), whole(imag(product))
}

// small answers the complex number whose parts stand in v's lowest 32 bits.
func small(v uint64) complex128 {
	return complex(part(v), part(v>>16))
}

// part answers v's lowest 16 bits as a number with a sign.
func part(v uint64) float64 {
	return float64(int16(v))
}

// whole answers f modulo 2^64: by way of int64, since what becomes of a negative one as a uint64 is not the same on each machine.
func whole(f float64) uint64 {
	return uint64(int64(f))
}
