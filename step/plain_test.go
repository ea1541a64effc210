package step

import (
	"slices"
	"testing"

	"chrysalis/api"
)

func TestDoneBehindTwo(t *testing.T) {
	x := start(t, prog(n(7), api.OpRet), 0)
	quiet(t, x)
	is(t, x, api.State{Frames: []api.Frame{at(0, 1, make([]uint64, 6), w(7))}})
	quiet(t, x)
	over(t, x, api.Done, 7, 0)
}

func TestIntPutsEachNumber(t *testing.T) {
	for _, v := range ints() {
		comes(t, v, n(v), api.OpRet)
	}
}

func TestRetTakesTheTopAlone(t *testing.T) {
	comes(t, 3, n(1), n(2), n(3), api.OpRet)
}

func TestPopDupSwap(t *testing.T) {
	comes(t, 1, n(1), n(2), api.OpPop, api.OpRet)
	comes(t, 2, n(1), n(2), n(3), n(64), api.OpPop, api.OpPop, api.OpRet)
	comes(t, 4, n(1), n(2), api.OpDup, api.OpAdd, api.OpRet)
	comes(t, 1, n(1), n(2), api.OpDup, api.OpPop, api.OpPop, api.OpRet)
	comes(t, 1, n(3), n(1), n(2), api.OpSwap, api.OpRet)
	comes(t, 2, n(3), n(1), n(2), api.OpSwap, api.OpPop, api.OpRet)
	comes(t, 3, n(3), n(1), n(2), api.OpSwap, api.OpPop, api.OpPop, api.OpRet)
}

func TestStackIsTheLastOnesTop(t *testing.T) {
	x := start(t, prog(n(1), n(2), n(3), api.OpSwap, api.OpDup, api.OpPop, api.OpPop, api.OpNull, api.OpPop, api.OpRet), 5)
	for pc, stack := range [][]uint64{nil, w(1), w(1, 2), w(1, 2, 3), w(1, 3, 2), w(1, 3, 2, 2), w(1, 3, 2), w(1, 3), w(1, 3, 0), w(1, 3)} {
		is(t, x, api.State{Frames: []api.Frame{at(0, pc, make([]uint64, 6), stack)}, Quota: 5})
		quiet(t, x)
	}
	over(t, x, api.Done, 3, 0)
}

func TestFullStack(t *testing.T) {
	comes(t, 8, n(1), n(1), n(1), n(1), n(1), n(1), n(1), n(1), many(7, in(api.OpAdd)), api.OpRet)
	x := start(t, prog(many(8, n(7)), api.OpSwap, many(4, in(api.OpTwist)), api.OpRet), 0)
	for range 13 {
		quiet(t, x)
	}
	quiet(t, x)
	over(t, x, api.Done, x.State().Value, 0)
}

func TestGetAndSet(t *testing.T) {
	one := bare(api.Func{Ret: number, Locals: []api.Type{number, number, text, number}, Code: code(
		n(7), in(api.OpSet, 1), n(200), in(api.OpSet, 3), in(api.OpText), in(api.OpSet, 2), in(api.OpGet, 3), in(api.OpGet, 1), api.OpSub, in(api.OpSet, 0), in(api.OpGet, 0), api.OpRet)})
	x := start(t, one, 100)
	for range 9 {
		quiet(t, x)
	}
	is(t, x, api.State{Frames: []api.Frame{at(0, 9, w(0, 7, 1, 200), w(193))}, Heap: []api.Obj{{Kind: api.Bytes, Bytes: []byte("hi")}}, Quota: 100, Used: 18})
	quiet(t, x)
	quiet(t, x)
	is(t, x, api.State{Frames: []api.Frame{at(0, 11, w(193, 7, 1, 200), w(193))}, Heap: []api.Obj{{Kind: api.Bytes, Bytes: []byte("hi")}}, Quota: 100, Used: 18})
	quiet(t, x)
	over(t, x, api.Done, 193, 18)
}

func TestGetLeavesTheLocal(t *testing.T) {
	comes(t, 14, n(7), in(api.OpSet), in(api.OpGet), in(api.OpGet), api.OpAdd, api.OpRet)
	comes(t, 0, in(api.OpGet), api.OpRet)
	comes(t, 1, in(api.OpGet, 4), api.OpIsNull, api.OpRet)
}

func TestTwoNumbers(t *testing.T) {
	for _, c := range []struct {
		op      int
		a, b, x uint64
	}{
		{api.OpAdd, 7, 2, 9}, {api.OpAdd, top, 2, 1}, {api.OpSub, 7, 2, 5}, {api.OpSub, 2, 7, top - 4}, {api.OpMul, 7, 200, 1400}, {api.OpMul, top, 2, top - 1},
		{api.OpDiv, 200, 7, 28}, {api.OpDiv, 7, 200, 0}, {api.OpDiv, top, 2, 1<<63 - 1}, {api.OpDiv, 0, 7, 0}, {api.OpRem, 200, 7, 4}, {api.OpRem, 7, 200, 7}, {api.OpRem, top, 2, 1},
		{api.OpAnd, 7, 2, 2}, {api.OpAnd, 65, 3, 1}, {api.OpOr, 65, 3, 67}, {api.OpXor, 65, 3, 66}, {api.OpXor, top, 1, top - 1},
		{api.OpShl, 3, 7, 384}, {api.OpShl, 7, 64, 7}, {api.OpShl, 7, 65, 14}, {api.OpShl, 1, top, 1 << 63}, {api.OpShr, 200, 3, 25}, {api.OpShr, 3, 200, 0}, {api.OpShr, 200, 65, 100}, {api.OpShr, top, top, 1},
		{api.OpAdd32, 7, 1 << 32, 7}, {api.OpAdd32, top, 2, 1}, {api.OpMul32, 0x12345678, 0x12345678, 0x1df4d840}, {api.OpMul32, top, top, 1},
		{api.OpEq, 7, 7, 1}, {api.OpEq, 7, 1 << 32, 0}, {api.OpEq, 1 << 32, 0, 0}, {api.OpLt, 2, 7, 1}, {api.OpLt, 7, 2, 0}, {api.OpLt, 7, 7, 0}, {api.OpLt, 1, top, 1}, {api.OpLt, top, 1, 0},
	} {
		comes(t, c.x, n(c.a), n(c.b), c.op, api.OpRet)
		comes(t, c.x+2, n(2), n(c.a), n(c.b), c.op, api.OpAdd, api.OpRet)
	}
}

// (2 + i)(4 + 3i): 5 + 10i, the second part on top.
func TestTwistPutsTwo(t *testing.T) {
	comes(t, 10, n(0x10002), n(0x30004), api.OpTwist, api.OpRet)
	comes(t, 5, n(0x10002), n(0x30004), api.OpTwist, api.OpPop, api.OpRet)
	comes(t, 5, n(7), n(0x10002), n(0x30004), api.OpTwist, api.OpSub, api.OpAdd, n(3), api.OpAdd, api.OpRet)
	x := start(t, prog(n(1), n(0x10002), n(0x30004), api.OpTwist, api.OpRet), 0)
	for range 4 {
		quiet(t, x)
	}
	is(t, x, api.State{Frames: []api.Frame{at(0, 4, make([]uint64, 6), w(1, 5, 10))}})
}

func TestJump(t *testing.T) {
	comes(t, 7, in(api.OpJump, 3), n(1), api.OpRet, n(7), api.OpRet)
	comes(t, 2, in(api.OpJump, 1), n(2), api.OpRet)
	comes(t, 3, in(api.OpJump, 3), n(3), api.OpRet, in(api.OpJump, 1))
	x := start(t, prog(in(api.OpJump)), 0)
	first := x.State()
	for range 1000 {
		quiet(t, x)
		is(t, x, first)
	}
}

func TestZero(t *testing.T) {
	comes(t, 7, n(0), in(api.OpZero, 4), n(1), api.OpRet, n(7), api.OpRet)
	for _, v := range ints()[1:] {
		comes(t, 1, n(v), in(api.OpZero, 4), n(1), api.OpRet, n(7), api.OpRet)
	}
	for _, v := range w(0, 7) { // both ways are one
		comes(t, 2, n(2), n(v), in(api.OpZero, 3), api.OpRet)
	}
	x := start(t, prog(n(3), n(0), in(api.OpZero, 4), api.OpRet, api.OpRet), 0)
	for range 3 {
		quiet(t, x)
	}
	is(t, x, api.State{Frames: []api.Frame{at(0, 4, make([]uint64, 6), w(3))}})
}

// either: puts b, if the first local is 0; else a.
func either(a, b any) []api.Instr {
	return code(in(api.OpGet), in(api.OpZero, 4), a, in(api.OpJump, 5), b)
}

// What may be a number or a reference is of no use, but it stands there as it is.
func TestNumberOrReference(t *testing.T) {
	m := prog(either(n(200), api.OpText), api.OpDup, n(3), api.OpSwap, api.OpPop, api.OpRet)
	for _, c := range []struct {
		local uint64
		many  int
		stack []uint64
	}{{0, 6, w(1, 3, 1)}, {7, 7, w(200, 3, 200)}} {
		s := begun(t, m, 100)
		s.Frames[0].Locals[0] = c.local
		x := load(t, m, s)
		for range c.many {
			quiet(t, x)
		}
		if got := x.State().Frames[0]; got.PC != 8 || !slices.Equal(got.Stack, c.stack) {
			t.Errorf("%v", got)
		}
		quiet(t, x)
		quiet(t, x)
		over(t, x, api.Done, 3, x.State().Used)
	}
}

func TestOneReferenceOrAnother(t *testing.T) {
	m := prog(either(in(api.OpNew, 1), api.OpText), api.OpDup, in(api.OpSet, 5), in(api.OpGet, 5), api.OpSame, api.OpRet)
	for _, v := range w(0, 7) {
		s := begun(t, m, 100)
		s.Frames[0].Locals[0] = v
		x := load(t, m, s)
		goes(t, x, 0)
		over(t, x, api.Done, 1, x.State().Used)
	}
}

// loop: does something 200 times, and comes to 7.
func loop(body ...any) api.Module {
	return prog(n(200), in(api.OpSet), in(api.OpGet), in(api.OpZero, 9), in(api.OpGet), n(1), api.OpSub, in(api.OpSet), in(api.OpJump, 11), // 2: once more
		n(7), api.OpRet, code(body...), in(api.OpJump, 2))
}

func TestLoop(t *testing.T) {
	x := start(t, loop(n(1), api.OpPop), 0)
	if done := goes(t, x, 0); done != 2+200*10+4 {
		t.Errorf("%d instructions", done)
	}
	over(t, x, api.Done, 7, 0)
}

func TestLoopThatUsesItAll(t *testing.T) {
	x := start(t, loop(n(64), api.OpInts, api.OpPop), api.MaxQuota)
	for range 2 + 124*11 + 8 {
		quiet(t, x)
	}
	s := x.State()
	if s.Used != 124*528 || len(s.Heap) != 124 || s.Frames[0].Locals[0] != 75 || s.Frames[0].PC != 12 {
		t.Fatalf("%d used, %d objects, %d left, at %d", s.Used, len(s.Heap), s.Frames[0].Locals[0], s.Frames[0].PC)
	}
	quiet(t, x)
	over(t, x, api.TrapQuota, 0, 124*528)
}
