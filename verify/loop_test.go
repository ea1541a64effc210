package verify

import (
	"testing"

	"chrysalis/api"
)

func TestLoopsThatLeaveTheStackAsItWas(t *testing.T) {
	comes(t, prog(perhaps(0), back()), ", I, , I")
	comes(t, prog(api.OpText, perhaps(1), api.OpPop, back()), ", B, B I, B, , I")
	comes(t, prog(api.OpText, api.OpDup, api.OpPop, perhaps(1), api.OpLenB, api.OpRet), ", B, B B, B, B I, B, I")
	comes(t, prog(api.OpText, api.OpInt, api.OpSwap, api.OpSwap, in(api.OpJump, 2)), ", B, B I, I B, B I") // it never ends
	comes(t, prog(in(api.OpJump, 3), api.OpText, api.OpPop, perhaps(1), back()), ", , B, , I, , I")        // its end is asked first
	comes(t, prog(api.OpInt, api.OpPop, in(api.OpGet, 1), in(api.OpSet, 1), perhaps(1+1), back()), ", I, , B, , I, , I")
}

func TestLoopsThatLeaveMore(t *testing.T) {
	fails(t, prog(api.OpInt, in(api.OpJump, 0)), 0)
	fails(t, prog(api.OpText, perhaps(0), back()), 0)
	fails(t, prog(api.OpText, api.OpDup, perhaps(1), back()), 0)
	fails(t, prog(api.OpInt, api.OpInt, api.OpTwist, api.OpDup, in(api.OpJump, 2)), 0)
	fails(t, prog(api.OpText, api.OpText, api.OpPop, api.OpNull, api.OpNull, perhaps(2), back()), 0)
	fails(t, with(prog(back()), api.Func{Ret: number, Code: code(api.OpNull, in(api.OpJump, 0))}), 1)
}

func TestLoopsThatLeaveLess(t *testing.T) {
	fails(t, prog(api.OpText, api.OpText, api.OpPop, perhaps(2), back()), 0)
	fails(t, prog(api.OpText, api.OpText, api.OpSame, api.OpPop, in(api.OpJump, 1)), 0)
	fails(t, prog(api.OpInt, api.OpInt, in(api.OpZero, 2), api.OpRet), 0)
	fails(t, prog(many(8, in(api.OpNull)), api.OpPop, perhaps(8), back()), 0)
	fails(t, with(prog(back()), api.Func{Ret: number, Code: code(api.OpNull, api.OpNull, api.OpPop, in(api.OpJump, 2))}), 1)
}

func TestLoopsOfAnotherType(t *testing.T) {
	comes(t, prog(api.OpNull, api.OpPop, api.OpText, perhaps(1), api.OpPop, back()), // Bytes come back to Null
		", B, , B, B I, B, , I")
	comes(t, prog(api.OpNull, api.OpDup, api.OpIsNull, api.OpPop, api.OpPop, api.OpText, perhaps(1), api.OpPop, back()), // what is behind the head gives way
		", B, B B, B I, B, , B, B I, B, , I")
	comes(t, prog(api.OpText, api.OpPop, api.OpNull, perhaps(1), api.OpPop, back()), // what stands there stays, what comes back does not
		", B, , N, N I, N, , I")
	comes(t, prog(api.OpText, api.OpPop, api.OpInt, api.OpInts, perhaps(1), api.OpPop, back()), // two references
		", A, , I, L, L I, L, , I")
	comes(t, prog(api.OpText, api.OpPop, api.OpInt, perhaps(1), api.OpPop, back()), // nothing in common
		", X, , I, I I, I, , I")
	comes(t, prog(api.OpText, api.OpNull, api.OpSwap, perhaps(2), api.OpSame, api.OpRet), // two places change round
		", B, B B, B B, B B I, B B, I")
	comes(t, prog(api.OpText, api.OpInt, api.OpSwap, perhaps(2), api.OpPop, api.OpPop, back()),
		", B, X X, X X, X X I, X X, X, , I")
}

func TestLoopsThatGiveWayMoreThanOnce(t *testing.T) {
	// Each round brings what stood on the top one place down.
	comes(t, prog(api.OpNull, api.OpText, api.OpSwap, api.OpPop, api.OpInt, api.OpInts, perhaps(2), api.OpSame, api.OpRet),
		", N, A A, A A, A, A I, A L, A L I, A L, I")
	comes(t, prog(api.OpNull, api.OpNull, api.OpSwap, api.OpPop, api.OpText, perhaps(2), api.OpSame, api.OpRet),
		", N, B B, B B, B, B B, B B I, B B, I")
	// Three ways back to one head: Null, then Bytes, then Any, then None.
	comes(t, prog(api.OpNull, api.OpPop, api.OpText, perhaps(1), api.OpPop, api.OpInt, api.OpInts, perhaps(1), api.OpPop, api.OpInt, perhaps(1), api.OpRet),
		", X, , B, B I, B, , I, L, L I, L, , I, I I, I")
	// A head behind which a second one gives way, too.
	comes(t, prog(api.OpNull, api.OpDup, api.OpSwap, perhaps(2), api.OpPop, api.OpPop, api.OpText, perhaps(1), api.OpLenB, api.OpRet),
		", B, B B, B B, B B I, B B, B, , B, B I, B, I")
}

// What the first round takes may be refused in a later one.
func TestLoopsThatFailInALaterRound(t *testing.T) {
	ahead := code(api.OpNull, api.OpText, api.OpSwap, api.OpPop, api.OpInt, api.OpInts)
	behind := code(api.OpPop, api.OpLenB, api.OpRet)
	comes(t, prog(ahead, code(api.OpInt, api.OpPop), behind), ", N, N B, B N, B, B I, B L, B L I, B L, B, I")
	fails(t, prog(ahead, perhaps(2), behind), 0)
	fails(t, prog(api.OpText, api.OpLenB, api.OpInts, perhaps(1), api.OpPop, back()), 0) // at the head
	fails(t, prog(api.OpNull, api.OpLenB, api.OpInts, perhaps(1), api.OpPop, back()), 0)
	comes(t, prog(api.OpNull, api.OpLen, api.OpInts, perhaps(1), api.OpPop, back()), ", L, I, L, L I, L, , I")
	fails(t, prog(api.OpText, api.OpIsNull, perhaps(1), api.OpRet), 0)
	fails(t, prog(in(api.OpHost, 1), api.OpClose, in(api.OpHost, 2), perhaps(1), api.OpPop, back()), 0) // two kinds of handles
	comes(t, prog(in(api.OpHost, 1), api.OpClose, in(api.OpHost, 1), perhaps(1), api.OpPop, back()), ", H0, , H0, H0 I, H0, , I")
}

func TestLoopsWithinLoops(t *testing.T) {
	comes(t, prog(api.OpText, api.OpInt, perhaps(2), api.OpPop, perhaps(1), api.OpLenB, api.OpRet), // each as it was
		", B, B I, B I I, B I, B, B I, B, I")
	comes(t, prog(api.OpNull, api.OpNull, api.OpPop, api.OpText, perhaps(2), api.OpSwap, api.OpPop, perhaps(1), api.OpLenB, api.OpRet), // the outer one changes what the inner one stands on
		", B, B B, B, B B, B B I, B B, B B, B, B I, B, I")
	comes(t, prog(api.OpNull, api.OpNull, api.OpNull, // three, the second one's type being the innermost one's
		api.OpPop, api.OpText, perhaps(3), api.OpSwap, api.OpPop, perhaps(2), api.OpPop, api.OpPop, api.OpInt, api.OpInts, perhaps(1), api.OpLen, api.OpRet),
		", L, L B, L B B, L B, L B B, L B B I, L B B, L B B, L B, L B I, L B, L, , I, L, L I, L, I")
	fails(t, prog(api.OpText, api.OpInt, perhaps(2), perhaps(1), back()), 0) // the outer one leaves more
	fails(t, prog(api.OpText, api.OpInt, api.OpDup, perhaps(2), api.OpPop, perhaps(1), back()), 0)
	fails(t, prog(api.OpText, api.OpText, api.OpPop, perhaps(1), perhaps(0), back()), 0)
	// Two that cut across each other.
	comes(t, prog(api.OpText, perhaps(5), perhaps(7), perhaps(1), perhaps(3), api.OpLenB, api.OpRet), ", B, B I, B, B I, B, B I, B, B I, B, I")
	comes(t, prog(api.OpNull, perhaps(5), perhaps(7), perhaps(1), api.OpPop, api.OpText, perhaps(3), api.OpLenB, api.OpRet), ", B, B I, B, B I, B, B I, B, , B, B I, B, I")
}

func TestJumpsToThemselves(t *testing.T) {
	comes(t, prog(in(api.OpJump, 0)), "")
	comes(t, prog(api.OpInt, in(api.OpJump, 1)), ", I")
	comes(t, prog(perhaps(3), in(api.OpJump, 2), back()), ", I, , , I")
	comes(t, prog(api.OpText, perhaps(4), in(api.OpJump, 3), api.OpLenB, api.OpRet), ", B, B I, B, B, I")
	comes(t, prog(many(8, in(api.OpNull)), in(api.OpJump, 8)), ", N, N N, N N N, N N N N, N N N N N, N N N N N N, N N N N N N N, N N N N N N N N")
	fails(t, prog(api.OpInt, in(api.OpZero, 1), back()), 0) // it takes something each time
	fails(t, prog(api.OpInt, api.OpInt, in(api.OpZero, 2), back()), 0)
}

func TestJumpsBackToTheFirst(t *testing.T) {
	comes(t, prog(api.OpInt, api.OpPop, in(api.OpJump, 0)), ", I, ")
	comes(t, prog(api.OpInt, in(api.OpZero, 0), back()), ", I, , I")
	comes(t, prog(in(api.OpJump, 1), in(api.OpJump, 0)), ", ")
	comes(t, prog(perhaps(0), perhaps(0), perhaps(2), perhaps(0), back()), ", I, , I, , I, , I, , I")
	for _, op := range []int{api.OpInt, api.OpText, api.OpNull} {
		fails(t, prog(op, in(api.OpJump, 0)), 0)
		fails(t, prog(op, perhaps(0), back()), 0)
		fails(t, prog(perhaps(0), op, perhaps(0), back()), 0) // with nothing on one way alone
	}
	fails(t, prog(many(8, in(api.OpNull)), in(api.OpJump, 0)), 0)
}
