package judge

import (
	"testing"

	"chrysalis/api"
)

// A wider type at a place that nobody uses again.
func TestWiderWhereNobodyUsesIt(t *testing.T) {
	m := prog(api.OpInt, api.OpPop, back())
	right(t, m, ", I, , I")
	right(t, m, ", X, , I")
	right(t, m, ", X9, , I")
	for _, word := range []string{"A", "B", "N", "H", "Q", "I1"} {
		wrong(t, m, ", "+word+", , I")
	}
	m = prog(api.OpText, back()) // it stays below
	for _, pair := range []string{", B, B I", ", B, A I", ", B, X I", ", A, A I", ", A, X I", ", X, X I"} {
		right(t, m, pair)
	}
	for _, pair := range []string{", A, B I", ", X, A I", ", X, B I", ", B, B X", ", B, N I", ", N, N I"} {
		wrong(t, m, pair)
	}
	right(t, prog(api.OpText, api.OpDup, api.OpPop, api.OpPop, back()), ", B, X X, X, , I")
	right(t, prog(api.OpText, api.OpDup, api.OpPop, api.OpPop, back()), ", A, A X, X, , I")
	wrong(t, prog(api.OpText, api.OpDup, api.OpPop, api.OpPop, back()), ", A, A B, A, , I")
	right(t, prog(api.OpText, api.OpInt, api.OpSwap, api.OpPop, api.OpRet), ", B, A I, I X, I")
	right(t, prog(api.OpText, perhaps(1), api.OpPop, back()), ", A, A I, A, , I") // round a loop
	right(t, prog(api.OpText, perhaps(1), api.OpPop, back()), ", X, X I, X, , I")
	right(t, prog(api.OpText, perhaps(3), api.OpPop, back()), ", B, A I, X, , I")
	wrong(t, prog(api.OpText, perhaps(1), api.OpPop, back()), ", B, A I, A, , I") // what comes back is wider than what it comes to
}

// A wider type at a place that is used.
func TestWiderWhereItIsUsed(t *testing.T) {
	null := prog(api.OpNull, api.OpIsNull, api.OpRet)
	for _, word := range []string{"N", "B", "L", "R", "R1", "A", "N7", "A7", "R99"} {
		right(t, null, ", "+word+", I")
	}
	for _, word := range []string{"X", "I", "H", "Q", ""} {
		wrong(t, null, ", "+word+", I")
	}
	length := prog(api.OpNull, api.OpLenB, api.OpRet)
	right(t, length, ", N, I")
	right(t, length, ", B, I")
	for _, word := range []string{"L", "R", "A", "X", "B1"} {
		wrong(t, length, ", "+word+", I")
	}
	local := prog(api.OpNull, in(api.OpSet, 4), back())
	right(t, local, ", A, , I")
	right(t, local, ", R1, , I")
	wrong(t, local, ", X, , I")
	result := with(prog(back()), api.Func{Ret: any0, Code: code(api.OpText, api.OpRet)})
	right(t, result, ", I", ", B")
	right(t, result, ", I", ", A")
	wrong(t, result, ", I", ", X")
	wrong(t, result, ", I", ", N")
	right(t, result, ", I", ", A3")
	wrong(t, result, ", X", ", A") // a result that is used is asked in each function
}

// Behind what is wider comes what is wider: what it is made into is held against what stands there.
func TestWiderGoesOn(t *testing.T) {
	m := prog(api.OpNull, api.OpDup, api.OpSame, api.OpRet)
	right(t, m, ", N, N N, I")
	right(t, m, ", B, B B, I")
	right(t, m, ", B, A B, I")
	right(t, m, ", N, B L, I")
	wrong(t, m, ", B, N B, I")
	wrong(t, m, ", A, A B, I")
	wrong(t, m, ", B, B L, I")
	wrong(t, m, ", B, X B, I")
}

// One that is said to be Seen, though nothing leads to it: it has to hold as any other.
func TestSeenThoughNothingLeadsThere(t *testing.T) {
	m := prog(back(), api.OpPop, in(api.OpJump, 3))
	for _, rest := range []string{"-, -", "I, ", "X, ", "B, ", "Q, ", "I I, I", "I B, I", "I B, X", "Q5 B, Q5", "-, ", "-, I", "-, X X X X X X X X"} {
		right(t, m, ", I, "+rest)
	}
	for _, rest := range []string{"I, -", ", ", ", -", "I, I", "I B, ", "I B, B", "X I, I", "Q5 B, Q6", "I I I, I"} {
		wrong(t, m, ", I, "+rest)
	}
	m = prog(back(), api.OpRet, api.OpAdd)
	right(t, m, ", I, I, -")
	right(t, m, ", I, B I, -")
	wrong(t, m, ", I, B, -")
	wrong(t, m, ", I, , -")
	wrong(t, m, ", I, -, I I") // it would go on behind the last one
	m = prog(back(), in(api.OpJump, 0))
	right(t, m, ", I, ") // it leads to what is led to otherwise
	wrong(t, m, ", I, I")
	m = prog(back(), in(api.OpJump, 1))
	right(t, m, ", I, I")
	wrong(t, m, ", I, ")
	wrong(t, m, ", I, B")
	wrong(t, m, ", I, X")
	m = prog(api.OpText, api.OpPop, back(), api.OpNull, in(api.OpJump, 1))
	right(t, m, ", B, , I, , N")
	right(t, m, ", A, , I, , A") // it asks no more of those than they have
	wrong(t, m, ", B, , I, , A")
	wrong(t, m, ", B, , I, , ")
	m = with(prog(back()), api.Func{Ret: text, Code: code(in(api.OpJump, 0), api.OpPop, in(api.OpJump, 2))})
	right(t, m, ", I", ", H3, ")
	wrong(t, m, ", I", ", , ")
}
