package arith

import (
	"testing"

	"chrysalis/api"
)

// two: the number whose lowest 32 bits are a complex one's parts, with high above them.
func two(re, im int16, high uint32) uint64 {
	return uint64(high)<<32 | uint64(uint16(im))<<16 | uint64(uint16(re))
}

func TestTwistOfAFew(t *testing.T) {
	for _, c := range []struct {
		a, b, x, y uint64
	}{
		{0x10000, 0x10000, top, 0}, // the chapter's example
		{0, 0, 0, 0}, {1, 1, 1, 0}, {6, 7, 42, 0}, {1, 0x10000, 0, 1}, {0x10000, 1, 0, 1}, {0, 0xffffffff, 0, 0},
		{0x00020001, 0x00040003, minus(5), 10},
		{0xffff, 0xffff, 1, 0}, {0xffff, 1, top, 0}, {1, 0xffff, top, 0}, {0xffff, 0x10000, 0, top}, {0xffff0000, 1, 0, top}, {0xffff0000, 0xffff0000, top, 0}, {0xffff0000, 0x10000, 1, 0}, {0xffffffff, 0xffffffff, 0, 2},
		{0x8000, 0x8000, 1 << 30, 0}, {0x8000, 0x7fff, minus(0x3fff8000), 0}, {0x7fff, 0x7fff, 0x3fff0001, 0},
		{0x80000000, 0x80000000, minus(1 << 30), 0}, {0x80000000, 0x8000, 0, 1 << 30}, {0x80008000, 0x80008000, 0, 1 << 31}, {0x7fff8000, 0x80008000, 1<<30 + 0x3fff8000, 0x8000}, {0x80008000, 0x7fff7fff, 0, minus(0x7fff0000)},
		{0x7fff7fff, 0x80007fff, 0x3fff0001 + 0x3fff8000, minus(0x7fff)},
	} {
		comesTo(t, api.OpTwist, c.a, c.b, c.x, c.y)
	}
}

func TestTwistTakesTheLowest32BitsAlone(t *testing.T) {
	for _, high := range []uint64{1 << 32, 1 << 47, 1 << 48, 1 << 63, top - (1<<32 - 1)} {
		comesTo(t, api.OpTwist, high, high, 0, 0)
		comesTo(t, api.OpTwist, 0x00020001+high, 0x00040003, minus(5), 10)
		comesTo(t, api.OpTwist, 0x00020001, 0x00040003+high, minus(5), 10)
	}
}

// signed: v's lowest 16 bits in two's complement, by hand.
func signed(v uint64) int64 {
	n := int64(v % 65536)
	if n >= 32768 {
		n -= 65536
	}
	return n
}

// twistsAsRead: that OpTwist of a and b comes to the product, worked out by whole numbers.
func twistsAsRead(t *testing.T, a, b uint64) {
	t.Helper()
	p, q, r, s := signed(a), signed(a/65536), signed(b), signed(b/65536)
	comesTo(t, api.OpTwist, a, b, uint64(p*r-q*s), uint64(p*s+q*r))
}

func TestTwistOfAllEdges(t *testing.T) {
	parts := []int16{-32768, -32767, -32766, -16385, -257, -182, -1, 0, 1, 2, 181, 255, 256, 16384, 32765, 32766, 32767}
	for _, p := range parts {
		for _, q := range parts {
			for _, r := range parts {
				for _, s := range parts {
					twistsAsRead(t, two(p, q, 0), two(r, s, 0))
					twistsAsRead(t, two(p, q, 0x80000001), two(r, s, 0xffffffff))
				}
			}
		}
	}
}

func TestTwistOfEachPart(t *testing.T) {
	for v := range uint64(1 << 16) {
		comesTo(t, api.OpTwist, v, 1, uint64(signed(v)), 0)
		comesTo(t, api.OpTwist, 1, v, uint64(signed(v)), 0)
		comesTo(t, api.OpTwist, v<<16, 1, 0, uint64(signed(v)))
		comesTo(t, api.OpTwist, 1, v<<16, 0, uint64(signed(v)))
		twistsAsRead(t, v|v<<16, 0x7ffd8003)
	}
}

func TestTwistAsReadAgain(t *testing.T) {
	pairs(func(a, b uint64) { twistsAsRead(t, a, b) })
	some := shaken(200000)
	for i := range len(some) - 1 {
		twistsAsRead(t, some[i]*0x9e3779b97f4a7c15, some[i+1]*0x9e3779b97f4a7c15)
	}
}

func TestTwistIsTheSameBothWaysRound(t *testing.T) {
	pairs(func(a, b uint64) {
		x, y, _ := Do(api.OpTwist, b, a)
		comesTo(t, api.OpTwist, a, b, x, y)
	})
}
