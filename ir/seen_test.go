package ir

import (
	"testing"

	"chrysalis/api"
)

func TestWhatIsNotSeen(t *testing.T) {
	comes(t, prog(back(), api.OpRet), "4 0>1, 4 1>0, -")
	comes(t, prog(in(api.OpJump, 2), api.OpAdd, back()), "4 0>0, -, 4 0>1, 4 1>0")
	comes(t, prog(back(), api.OpText, in(api.OpJump, 1)), "4 0>1, 4 1>0, -, -")
	comes(t, prog(back(), in(api.OpJump, 3), in(api.OpJump, 2)), "4 0>1, 4 1>0, -, -") // in a ring
	comes(t, prog(back(), perhaps(0), in(api.OpJump, 2)), "4 0>1, 4 1>0, -, -, -")
	comes(t, prog(in(api.OpJump, 5), back(), back(), back()), "4 0>0, -, -, -, -, 4 0>1, 4 1>0")
	comes(t, prog(in(api.OpJump, 0), back()), "4 0>0, -, -")
}

// Whatever it is, and whatever numbers it has; each of them alone behind an OpRet would have had an error, but for two.
func TestEachThatIsNotSeen(t *testing.T) {
	for op := range api.Ops {
		comes(t, prog(back(), in(op)), "4 0>1, 4 1>0, -")
		comes(t, prog(in(api.OpJump, 2), in(op), back()), "4 0>0, -, 4 0>1, 4 1>0")
		m := with(prog(back()), api.Func{Ret: number, Locals: is(number), Code: code(back(), in(op), back(), in(op))})
		comes(t, m, "4 0>1, 4 1>0", "1 0>1, 1 1>0, -, -, -, -")
	}
	for _, i := range []api.Instr{in(api.OpInt, 5), in(api.OpText, 3), in(api.OpGet, 3), in(api.OpCall, 0), in(api.OpHost, 6), in(api.OpField, 2, 5), in(api.OpPut, 0, 2), in(api.OpJump, 2), in(api.OpZero, 1)} {
		comes(t, prog(back(), i), "4 0>1, 4 1>0, -")
	}
}

// What is come to from behind, or by one of two ways alone, is Seen.
func TestWhatIsSeen(t *testing.T) {
	comes(t, prog(in(api.OpJump, 3), api.OpInt, api.OpRet, in(api.OpJump, 1)), "4 0>0, 4 0>1, 4 1>0, 4 0>0")
	comes(t, prog(perhaps(4), back(), back()), "4 0>1, 4 1>0, 4 0>1, 4 1>0, 4 0>1, 4 1>0")
	comes(t, prog(perhaps(5), back(), api.OpAdd, back()), "4 0>1, 4 1>0, 4 0>1, 4 1>0, -, 4 0>1, 4 1>0")
	comes(t, prog(api.OpText, perhaps(1), api.OpPop, back()), "4 0>1, 5 0>1, 5 1>0, 4 1>0, 4 0>1, 4 1>0")
}

// Two that come to one, with other types: as many are taken as ever.
func TestWhereTwoCome(t *testing.T) {
	for _, x := range []struct{ one, other api.Instr }{
		{in(api.OpInt), in(api.OpText)}, {in(api.OpText), in(api.OpNull)}, {in(api.OpNull), in(api.OpNew, 1)}, {in(api.OpHost, 0), in(api.OpHost, 1)},
	} {
		m := prog(api.OpInt, in(api.OpZero, 4), x.one, in(api.OpJump, 5), x.other, api.OpDup, api.OpSwap, api.OpPop, api.OpPop, back())
		comes(t, m, "4 0>1, 4 1>0, 4 0>1, 5 0>0, 4 0>1, 4 1>2, 4 2>2, 5 1>0, 4 1>0, 4 0>1, 4 1>0")
	}
	m := prog(api.OpInt, in(api.OpZero, 4), api.OpText, in(api.OpJump, 5), api.OpNull, api.OpIsNull, api.OpRet)
	comes(t, m, "4 0>1, 4 1>0, 4 0>1, 5 0>0, 4 0>1, 4 1>1, 4 1>0")
}
