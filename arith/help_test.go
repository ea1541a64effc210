package arith

import (
	"math"
	"testing"

	"chrysalis/api"
)

// top: the greatest number.
const top = math.MaxUint64

// known: those that bring two numbers together, by their places in api's list.
var known = []int{8, 9, 10, 11, 12, 13, 14, 15, 16, 17, 18, 19, 20, 21, 22}

// minus: n below 0, as a number modulo 2^64.
func minus(n uint64) uint64 { return -n }

// edges: both sides of each bound that a number, or a part of one, has.
func edges() []uint64 {
	out := []uint64{0, 1, 2, 3, 5, 7, 10, 100, 0x5555555555555555, 0xaaaaaaaaaaaaaaaa, 0x0123456789abcdef, 0xfedcba9876543210, 0xdeadbeef, 0x00020001, 0x00040003}
	for _, n := range []int{5, 6, 7, 8, 15, 16, 17, 31, 32, 33, 47, 48, 52, 53, 54, 62, 63} {
		one := uint64(1) << n
		out = append(out, one-2, one-1, one, one+1, minus(one), minus(one)-1, minus(one)+1)
	}
	return append(out, top-1, top)
}

// shaken: n numbers of all widths, the same ones each time.
func shaken(n int) []uint64 {
	out := make([]uint64, n)
	x := uint64(88172645463325252)
	for i := range out {
		x ^= x << 13
		x ^= x >> 7
		x ^= x << 17
		out[i] = x >> (x % 61)
	}
	return out
}

// pairs: each of edges with each, and shaken ones.
func pairs(do func(a, b uint64)) {
	all := edges()
	for _, a := range all {
		for _, b := range all {
			do(a, b)
		}
	}
	some := shaken(20000)
	for i := range len(some) - 1 {
		do(some[i], some[i+1])
	}
}

// comesTo: that Do has an answer, which is x and y.
func comesTo(t *testing.T, op int, a, b, x, y uint64) {
	t.Helper()
	if gotX, gotY, ok := Do(op, a, b); !ok || gotX != x || gotY != y {
		t.Fatalf("Do(%d, %#x, %#x): %#x, %#x, %v, not %#x, %#x", op, a, b, gotX, gotY, ok, x, y)
	}
}

// refused: that Do has no answer, and nothing stands beside the false.
func refused(t *testing.T, op int, a, b uint64) {
	t.Helper()
	if x, y, ok := Do(op, a, b); ok || x != 0 || y != 0 {
		t.Fatalf("Do(%d, %#x, %#x): %#x, %#x, %v", op, a, b, x, y, ok)
	}
}

// far: those that there are not, those beside them, and those that are a known one in their lowest bits alone.
func far() []int {
	out := []int{math.MinInt, math.MinInt + api.OpAdd, math.MinInt32, math.MinInt32 + api.OpTwist, math.MaxInt32, math.MaxInt, math.MaxInt - 1}
	for _, op := range known {
		for _, high := range []int{1 << 6, 1 << 7, 1 << 8, 1 << 16, 1 << 30, math.MaxInt/2 + 1, math.MinInt} {
			out = append(out, op+high, -op, ^op, op-high)
		}
	}
	return out
}
