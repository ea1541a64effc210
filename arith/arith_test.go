package arith

import (
	"math/big"
	"slices"
	"testing"

	"chrysalis/api"
)

// sample: what an instruction makes of two numbers, worked out by hand.
type sample struct {
	op   int
	a, b uint64
	x    uint64
}

// allCome: that each of list comes out, with nothing beside it.
func allCome(t *testing.T, list []sample) {
	t.Helper()
	for _, s := range list {
		comesTo(t, s.op, s.a, s.b, s.x, 0)
	}
}

func TestKnownOnesAreAllFromAddToTwist(t *testing.T) {
	want := []int{api.OpAdd, api.OpSub, api.OpMul, api.OpDiv, api.OpRem, api.OpAnd, api.OpOr, api.OpXor, api.OpShl, api.OpShr, api.OpAdd32, api.OpMul32, api.OpEq, api.OpLt, api.OpTwist}
	if !slices.Equal(known, want) {
		t.Fatalf("the tests' own list is another one: %v", want)
	}
	for _, op := range known {
		if _, _, ok := Do(op, 7, 2); !ok {
			t.Errorf("Do(%d, 7, 2) has no answer", op)
		}
	}
}

func TestAddSubMulComeRound(t *testing.T) {
	allCome(t, []sample{
		{api.OpAdd, 0, 0, 0}, {api.OpAdd, 40, 2, 42}, {api.OpAdd, top, 0, top}, {api.OpAdd, top, 1, 0}, {api.OpAdd, 1, top, 0}, {api.OpAdd, top, top, top - 1}, {api.OpAdd, 1 << 63, 1 << 63, 0}, {api.OpAdd, 1<<32 - 1, 1, 1 << 32},
		{api.OpSub, 42, 2, 40}, {api.OpSub, 2, 42, minus(40)}, {api.OpSub, 0, 1, top}, {api.OpSub, 0, top, 1}, {api.OpSub, top, top, 0}, {api.OpSub, 0, 1 << 63, 1 << 63}, {api.OpSub, 1 << 32, 1, 1<<32 - 1},
		{api.OpMul, 6, 7, 42}, {api.OpMul, top, 0, 0}, {api.OpMul, top, top, 1}, {api.OpMul, top, 2, top - 1}, {api.OpMul, 1 << 32, 1 << 32, 0}, {api.OpMul, 1 << 32, 1 << 31, 1 << 63}, {api.OpMul, 1<<32 + 1, 1<<32 + 1, 1<<33 + 1}, {api.OpMul, 1<<32 - 1, 1<<32 - 1, 0xfffffffe00000001},
	})
}

func TestDivRemHaveNoSign(t *testing.T) {
	allCome(t, []sample{
		{api.OpDiv, 7, 2, 3}, {api.OpDiv, 2, 7, 0}, {api.OpDiv, 0, 7, 0}, {api.OpDiv, 7, 7, 1}, {api.OpDiv, top, 1, top}, {api.OpDiv, top, 2, 1<<63 - 1}, {api.OpDiv, top, top, 1}, {api.OpDiv, top - 1, top, 0}, {api.OpDiv, 1 << 63, top, 0}, {api.OpDiv, minus(7), 2, 1<<63 - 4}, {api.OpDiv, top, 1 << 32, 1<<32 - 1},
		{api.OpRem, 7, 2, 1}, {api.OpRem, 2, 7, 2}, {api.OpRem, 0, 7, 0}, {api.OpRem, 7, 7, 0}, {api.OpRem, top, 1, 0}, {api.OpRem, top, 2, 1}, {api.OpRem, top, 10, 5}, {api.OpRem, top - 1, top, top - 1}, {api.OpRem, 1 << 63, top, 1 << 63}, {api.OpRem, minus(7), 3, 0}, {api.OpRem, top, 1 << 32, 1<<32 - 1},
	})
}

func TestDivRemBy0HaveNoAnswer(t *testing.T) {
	for _, a := range append(edges(), shaken(1000)...) {
		refused(t, api.OpDiv, a, 0)
		refused(t, api.OpRem, a, 0)
	}
}

func TestDivRemByWhatIs0InItsLowestBits(t *testing.T) {
	allCome(t, []sample{
		{api.OpDiv, top, 1 << 8, 1<<56 - 1}, {api.OpDiv, top, 1 << 16, 1<<48 - 1}, {api.OpDiv, top, 1 << 63, 1}, {api.OpDiv, 1<<63 - 1, 1 << 63, 0},
		{api.OpRem, top, 1 << 8, 1<<8 - 1}, {api.OpRem, top, 1 << 16, 1<<16 - 1}, {api.OpRem, top, 1 << 63, 1<<63 - 1}, {api.OpRem, 1<<63 - 1, 1 << 63, 1<<63 - 1},
	})
}

func TestBitByBit(t *testing.T) {
	const a, b = 0xfff0f0f000000ffc, 0x5a5a5a5affff000a
	allCome(t, []sample{
		{api.OpAnd, a, b, 0x5a50505000000008}, {api.OpOr, a, b, 0xfffafafaffff0ffe}, {api.OpXor, a, b, 0xa5aaaaaaffff0ff6},
		{api.OpAnd, 12, 10, 8}, {api.OpOr, 12, 10, 14}, {api.OpXor, 12, 10, 6},
		{api.OpAnd, top, 0, 0}, {api.OpOr, top, 0, top}, {api.OpXor, top, 0, top}, {api.OpXor, top, top, 0}, {api.OpAnd, 1 << 63, top, 1 << 63},
	})
}

func TestShiftsByTheLowestSixBits(t *testing.T) {
	allCome(t, []sample{
		{api.OpShl, 1, 0, 1}, {api.OpShl, 1, 1, 2}, {api.OpShl, 1, 63, 1 << 63}, {api.OpShl, 1, 64, 1}, {api.OpShl, 1, 65, 2}, {api.OpShl, 1, 127, 1 << 63}, {api.OpShl, 1, 128, 1}, {api.OpShl, 3, 63, 1 << 63}, {api.OpShl, 1, top, 1 << 63}, {api.OpShl, 5, 1 << 63, 5}, {api.OpShl, 5, 1<<32 + 2, 20}, {api.OpShl, top, 32, top - (1<<32 - 1)}, {api.OpShl, 1, 32, 1 << 32},
		{api.OpShr, 8, 0, 8}, {api.OpShr, 8, 3, 1}, {api.OpShr, 8, 4, 0}, {api.OpShr, top, 63, 1}, {api.OpShr, top, 64, top}, {api.OpShr, top, 65, 1<<63 - 1}, {api.OpShr, 1 << 63, 63, 1}, {api.OpShr, 1 << 63, 1, 1 << 62}, {api.OpShr, 1 << 63, top, 1}, {api.OpShr, 5, 1 << 63, 5}, {api.OpShr, 20, 1<<32 + 2, 5}, {api.OpShr, top, 32, 1<<32 - 1},
	})
}

func TestEachShift(t *testing.T) {
	const a = 0xc3a5968712345679
	shl, shr := uint64(a), uint64(a)
	for n := range uint64(64) {
		for _, high := range []uint64{0, 64, 128, 1 << 8, 1 << 32, 1 << 63, top - 63} {
			comesTo(t, api.OpShl, a, n+high, shl, 0)
			comesTo(t, api.OpShr, a, n+high, shr, 0)
		}
		shl, shr = shl+shl, shr/2
	}
}

func TestOfTheLowest32Bits(t *testing.T) {
	const high = 0xabcd1234 << 32
	allCome(t, []sample{
		{api.OpAdd32, 40, 2, 42}, {api.OpAdd32, 1<<32 - 1, 1, 0}, {api.OpAdd32, 1<<32 - 1, 1<<32 - 1, 1<<32 - 2}, {api.OpAdd32, 1 << 31, 1 << 31, 0}, {api.OpAdd32, 1 << 31, 1<<31 - 1, 1<<32 - 1}, {api.OpAdd32, 1<<31 - 1, 1, 1 << 31}, {api.OpAdd32, 1 << 32, 1 << 32, 0}, {api.OpAdd32, top, 0, 1<<32 - 1}, {api.OpAdd32, 0, top, 1<<32 - 1}, {api.OpAdd32, high + 40, 2, 42}, {api.OpAdd32, 40, high + 2, 42}, {api.OpAdd32, 1<<32 + 1, 1<<32 - 1, 0},
		{api.OpMul32, 6, 7, 42}, {api.OpMul32, 1 << 16, 1 << 16, 0}, {api.OpMul32, 1 << 16, 1 << 15, 1 << 31}, {api.OpMul32, 1<<32 - 1, 1<<32 - 1, 1}, {api.OpMul32, 1<<32 - 1, 2, 1<<32 - 2}, {api.OpMul32, 1 << 31, 3, 1 << 31}, {api.OpMul32, 1 << 32, 7, 0}, {api.OpMul32, top, top, 1}, {api.OpMul32, high + 6, 7, 42}, {api.OpMul32, 6, high + 7, 42}, {api.OpMul32, 1<<16 + 1, 1<<16 + 1, 1<<17 + 1},
	})
}

func TestEqIsOfAllBits(t *testing.T) {
	allCome(t, []sample{{api.OpEq, 0, 0, 1}, {api.OpEq, 1, 2, 0}, {api.OpEq, 2, 1, 0}, {api.OpEq, top, top, 1}, {api.OpEq, 0, top, 0}, {api.OpEq, 7, 7, 1}})
	for n := range 64 {
		one := uint64(1) << n
		allCome(t, []sample{{api.OpEq, 0, one, 0}, {api.OpEq, one, 0, 0}, {api.OpEq, one, one, 1}, {api.OpEq, top, top - one, 0}, {api.OpEq, top - one, top - one, 1}})
	}
}

func TestLtHasNoSign(t *testing.T) {
	allCome(t, []sample{{api.OpLt, 0, 0, 0}, {api.OpLt, 1, 2, 1}, {api.OpLt, 2, 1, 0}, {api.OpLt, 1, top, 1}, {api.OpLt, top, 1, 0}, {api.OpLt, top, top, 0}, {api.OpLt, top - 1, top, 1}, {api.OpLt, 1<<63 - 1, 1 << 63, 1}, {api.OpLt, 1 << 63, 1<<63 - 1, 0}, {api.OpLt, 1 << 32, 1, 0}, {api.OpLt, 1, 1 << 32, 1}})
	for n := range 64 {
		one := uint64(1) << n
		allCome(t, []sample{{api.OpLt, 0, one, 1}, {api.OpLt, one, 0, 0}, {api.OpLt, one, one, 0}, {api.OpLt, one - 1, one, 1}, {api.OpLt, one, one - 1, 0}})
	}
}

func TestOtherOnesHaveNoAnswer(t *testing.T) {
	for op := -1000; op < 70000; op++ {
		if slices.Contains(known, op) {
			continue
		}
		for _, a := range []uint64{0, 1, 7, 1 << 63, top} {
			refused(t, op, a, 0)
			refused(t, op, a, 2)
			refused(t, op, a, top)
		}
	}
	for _, op := range far() {
		refused(t, op, 7, 2)
		refused(t, op, 0, 0)
		refused(t, op, top, top)
	}
}

func TestOtherOnesHaveNoAnswerWhateverTheNumbersAre(t *testing.T) {
	for op := -1; op <= api.Ops; op++ {
		if !slices.Contains(known, op) {
			pairs(func(a, b uint64) { refused(t, op, a, b) })
		}
	}
}

func TestAgainTheSame(t *testing.T) {
	for op := -1; op <= api.Ops; op++ {
		some := shaken(2000)
		for i := range len(some) - 1 {
			x, y, ok := Do(op, some[i], some[i+1])
			if againX, againY, again := Do(op, some[i], some[i+1]); againX != x || againY != y || again != ok {
				t.Fatalf("Do(%d, %#x, %#x) has another answer", op, some[i], some[i+1])
			}
		}
	}
}

// A second reading of the chapter, by numbers without an end.

var round, round32 = power(64), power(32)

// power: 2 to the n-th.
func power(n uint) *big.Int { return new(big.Int).Lsh(big.NewInt(1), n) }

// read: what comes of a and b by op, of OpAdd to OpLt, where b of a division is not 0.
func read(op int, a, b uint64) uint64 {
	p, q, out := new(big.Int).SetUint64(a), new(big.Int).SetUint64(b), new(big.Int)
	short, other := new(big.Int).Mod(p, round32), new(big.Int).Mod(q, round32)
	switch op {
	case api.OpAdd:
		out.Add(p, q)
	case api.OpSub:
		out.Sub(p, q)
	case api.OpMul:
		out.Mul(p, q)
	case api.OpDiv:
		out.Div(p, q)
	case api.OpRem:
		out.Mod(p, q)
	case api.OpAnd, api.OpOr, api.OpXor:
		out = bits(op, p, q)
	case api.OpShl:
		out.Mul(p, power(uint(b%64)))
	case api.OpShr:
		out.Div(p, power(uint(b%64)))
	case api.OpAdd32:
		out.Add(short, other).Mod(out, round32)
	case api.OpMul32:
		out.Mul(short, other).Mod(out, round32)
	case api.OpEq:
		if p.Cmp(q) == 0 {
			out.SetInt64(1)
		}
	case api.OpLt:
		if p.Cmp(q) < 0 {
			out.SetInt64(1)
		}
	}
	return out.Mod(out, round).Uint64() // Mod is never below 0
}

// bits: p and q, bit by bit, by how many of the two have it.
func bits(op int, p, q *big.Int) *big.Int {
	out := new(big.Int)
	for n := range 64 {
		has := p.Bit(n) + q.Bit(n)
		if has == 2 && op != api.OpXor || has == 1 && op != api.OpAnd {
			out.SetBit(out, n, 1)
		}
	}
	return out
}

func TestAsReadAgain(t *testing.T) {
	for op := api.OpAdd; op <= api.OpLt; op++ {
		pairs(func(a, b uint64) {
			if b == 0 && (op == api.OpDiv || op == api.OpRem) {
				refused(t, op, a, b)
				return
			}
			comesTo(t, op, a, b, read(op, a, b), 0)
		})
	}
}
