// Package num is layer 1: numbers as bytes (see shared/doc/01-num.md).
package num

import (
	"bytes"
	"slices"
)

// maxWidth is how many bytes a number of 64 bits has.
const maxWidth = 8

// maxVar is how many bytes the longest Var has: nine of seven bits, and one for the last bit.
const maxVar = 10

// more is what each byte of a Var but its last one has on top.
const more = 0x80

// width brings n to a width that there is.
func width(n int) int {
	return max(0, min(n, maxWidth))
}

// Fixed writes v's lowest n bytes, the lowest first; n beyond 0 to 8 counts as the nearer end.
func Fixed(v uint64, n int) []byte {
	out := make([]byte, width(n))
	for i := range len(out) {
		out[i] = byte(v >> (8 * i))
	}
	return out
}

// Var writes v with seven bits a byte, the lowest first, in as few bytes as can be.
func Var(v uint64) []byte {
	var out []byte
	for v >= more {
		out = append(out, byte(v)|more)
		v >>= 7
	}
	return append(out, byte(v))
}

// Reader takes numbers and bytes from the front of a list of its own.
type Reader struct {
	rest []byte
	bad  bool
}

// NewReader makes a Reader of a copy of b, so that b may change behind it.
func NewReader(b []byte) *Reader {
	return &Reader{rest: bytes.Clone(b)}
}

// Fixed takes a number of n bytes, the lowest first; n beyond 0 to 8 counts as the nearer end.
func (r *Reader) Fixed(n int) uint64 {
	var v uint64
	for _, x := range slices.Backward(r.cut(width(n))) {
		v = v<<8 | uint64(x)
	}
	return v
}

// Var takes a number as the function Var writes it, and in no other form.
func (r *Reader) Var() uint64 {
	if r.Bad() {
		return 0
	}
	v, n, ok := leadingVar(r.rest)
	if !ok {
		r.spoil()
		return 0
	}
	r.cut(n)
	return v
}

// Take takes n bytes as they are.
func (r *Reader) Take(n int) []byte {
	return bytes.Clone(r.cut(n))
}

// Left tells how many bytes can still be taken.
func (r *Reader) Left() int {
	if r.Bad() {
		return 0
	}
	return len(r.rest)
}

// Bad tells whether something could not be taken; a nil Reader is bad from the beginning.
func (r *Reader) Bad() bool {
	return r == nil || r.bad
}

// cut takes n bytes without copying them: what it answers must not leave the package.
func (r *Reader) cut(n int) []byte {
	if r.Bad() {
		return nil
	}
	if n < 0 || n > len(r.rest) {
		r.spoil()
		return nil
	}
	front := r.rest[:n]
	r.rest = r.rest[n:]
	return front
}

// spoil makes r bad for good; its bytes are of no use any more, and so are let go.
func (r *Reader) spoil() {
	*r = Reader{bad: true}
}

// leadingVar reads the Var that b begins with, and how many bytes it has; false, if there is none.
func leadingVar(b []byte) (v uint64, n int, ok bool) {
	for i := range min(len(b), maxVar) {
		x := b[i]
		if i == maxVar-1 && x > 1 { // only one of the 64 bits is left for the tenth byte
			return 0, 0, false
		}
		v |= uint64(x&^more) << (7 * i)
		if x < more {
			if x == 0 && i > 0 { // a last byte without bits could have been left out
				return 0, 0, false
			}
			return v, i + 1, true
		}
	}
	return 0, 0, false
}
