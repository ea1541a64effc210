package judge

import (
	"fmt"
	"strings"
	"testing"

	"chrysalis/api"
)

// An error of Flow at one that is Seen, wherever it stands.
func TestAnErrorOfFlow(t *testing.T) {
	wrong(t, prog(api.OpRet), "")
	wrong(t, prog(api.OpAdd, api.OpRet), ", I")
	wrong(t, prog(api.OpInt, api.OpAdd, api.OpRet), ", I, I")
	wrong(t, prog(api.OpText, api.OpRet), ", B")
	wrong(t, prog(api.OpText, api.OpLen, api.OpRet), ", B, I")
	wrong(t, prog(in(api.OpGet, 4), in(api.OpSet, 1), back()), ", A, , I")
	wrong(t, prog(in(api.OpHost, 1), in(api.OpHost, 3), api.OpRet), ", H, I")
	wrong(t, prog(api.OpInt, in(api.OpHost, 1), in(api.OpHost, 3), api.OpRet), ", I, I H, I") // a handle of another kind
	right(t, prog(api.OpInt, in(api.OpHost, 2), in(api.OpHost, 3), api.OpRet), ", I, I H1, I")
	wrong(t, prog(perhaps(4), back(), api.OpPop, back()), ", I, , I, , , I") // on one of two ways alone
	right(t, prog(perhaps(4), back(), api.OpNull, back()), ", I, , I, , N, N I")
	wrong(t, prog(perhaps(3), api.OpPop, back()), ", I, , , I")
	for _, op := range []int{api.OpPop, api.OpDup, api.OpRet, api.OpIsNull, api.OpClose, api.OpLen} { // with nothing, ahead of, and behind, what does
		wrong(t, prog(op, back()), ", , I")
		wrong(t, prog(api.OpText, api.OpPop, in(op), back()), ", B, , , I")
		wrong(t, with(prog(back()), api.Func{Ret: number, Code: code(op, back())}), ", I", ", , I")
	}
}

// What stands there is what counts: a wider type is one that an instruction may not take.
func TestAnErrorOfFlowWithAWiderTypeAlone(t *testing.T) {
	right(t, prog(api.OpText, api.OpLenB, api.OpRet), ", B, I")
	wrong(t, prog(api.OpText, api.OpLenB, api.OpRet), ", A, I")
	wrong(t, prog(api.OpText, api.OpLenB, api.OpRet), ", X, I")
	wrong(t, prog(api.OpText, api.OpLenB, api.OpRet), ", B, X")
	right(t, prog(api.OpNull, in(api.OpField, 0), api.OpRet), ", N, I")
	right(t, prog(api.OpNull, in(api.OpField, 0), api.OpRet), ", R, I")
	wrong(t, prog(api.OpNull, in(api.OpField, 0), api.OpRet), ", R1, I")
	wrong(t, prog(api.OpNull, in(api.OpField, 0), api.OpRet), ", A, I")
	right(t, prog(in(api.OpHost, 1), api.OpClose, back()), ", H, , I")
	wrong(t, prog(in(api.OpHost, 1), api.OpClose, back()), ", X, , I")
}

func TestGoingOnBehindTheLastOne(t *testing.T) {
	wrong(t, prog(api.OpInt), "")
	wrong(t, prog(api.OpInt, api.OpPop), ", I")
	wrong(t, prog(api.OpInt, in(api.OpZero, 0)), ", I")
	wrong(t, prog(perhaps(4), back(), api.OpInt), ", I, , I, ")
	right(t, prog(perhaps(2), back(), api.OpInt), ", I, , I, -") // nobody comes to it
	wrong(t, prog(perhaps(2), back(), api.OpInt), ", I, , I, ")
	wrong(t, prog(in(api.OpJump, 3), back(), in(api.OpJump, 4), api.OpNull), ", -, -, , ")
	wrong(t, with(prog(back()), api.Func{Ret: text, Code: code(api.OpText)}), ", I", "")
	right(t, prog(in(api.OpJump, 0)), "") // it goes back, or nowhere
	right(t, prog(api.OpInt, in(api.OpJump, 3), in(api.OpJump, 3), in(api.OpJump, 2)), ", I, I, I")
}

func TestLeadingToOneThatIsNotSeen(t *testing.T) {
	wrong(t, prog(api.OpText, api.OpPop, back()), ", -, , I")
	wrong(t, prog(api.OpText, api.OpPop, back()), ", B, -, I")
	wrong(t, prog(api.OpText, api.OpPop, back()), ", B, , -")
	wrong(t, prog(api.OpText, api.OpPop, back()), ", -, -, -")
	wrong(t, prog(api.OpText, api.OpPop, back()), ", B, - , I")
	wrong(t, prog(api.OpText, api.OpPop, back()), ", - B, , I") // that it has the stack is not enough
	wrong(t, prog(api.OpText, api.OpPop, back()), ", B, , - I")
	wrong(t, prog(in(api.OpJump, 3), back(), back()), ", -, -, -, -")
	right(t, prog(in(api.OpJump, 3), back(), back()), ", -, -, , I")
	wrong(t, with(prog(back()), api.Func{Ret: text, Code: code(api.OpText, api.OpRet)}), ", I", ", - B")
	wrong(t, with(prog(back()), api.Func{Ret: text, Code: code(api.OpText, api.OpRet)}), ", - I", ", B")
}

// Higher or lower where it leads to: each of these could be gone on from.
func TestLeadingToAnotherHeight(t *testing.T) {
	m := prog(api.OpText, api.OpNull, in(api.OpJump, 3), in(api.OpJump, 3))
	right(t, m, ", B, B N, B N")
	for _, at3 := range []string{"", "B", "N", "I B N", "B N I", "B N N", "X B N", "B N X", "X", "X X X", "B B N N", strings.Repeat("X ", api.MaxStack)} {
		wrong(t, m, ", B, B N, "+at3)
	}
	for _, at2 := range []string{"", "B", "N", "X", "I B N", "B N N"} {
		wrong(t, m, ", B, "+at2+", "+at2)
		wrong(t, m, ", B, "+at2+", B N")
	}
	right(t, prog(back(), in(api.OpJump, 3), in(api.OpJump, 3)), ", I, , ")
	wrong(t, prog(back(), in(api.OpJump, 3), in(api.OpJump, 3)), ", I, , N")
	wrong(t, prog(back(), in(api.OpJump, 3), in(api.OpJump, 3)), ", I, N, ")
}

// Each place there, from what comes, which is N, to what stands there.
func TestLeadingToAnotherType(t *testing.T) {
	for _, x := range []struct{ comes, below, beside string }{
		{"I", "I X X7", "B L R H N A Q I1"}, {"B", "B A A1 X", "I L R H N Q B1"}, {"L", "L A X", "I B R H N Q"}, {"R", "R A X X-1", "I B L R1 H N Q R-1"},
		{"R1", "R1 A X", "I B L R H N"}, {"H", "H X", "I B L R H1 N A"}, {"H1", "H1 X", "I B H H2 N A"}, {"N", "N B L R R1 R99 R-1 A N3 B5 X", "I H Q"}, {"A", "A A1 X", "I B L R H N Q"},
	} {
		put := map[string]api.Instr{"I": in(api.OpInt), "B": in(api.OpText), "L": in(api.OpGet, 2), "R": in(api.OpGet, 3), "R1": in(api.OpNew, 1), "H": in(api.OpHost, 1), "H1": in(api.OpHost, 2), "N": in(api.OpNull), "A": in(api.OpGet, 4)}[x.comes]
		for height := range api.MaxStack - 1 {
			for place := range height + 1 { // as many jumps as there are steps on the way up, and one there
				body := code(many(place, in(api.OpInt)), put, many(height-place, in(api.OpInt)), in(api.OpJump, height+2), in(api.OpJump, height+2))
				line := ""
				for n := range height + 1 {
					line += stackOf(n, place, x.comes) + ","
				}
				line += stackOf(height+1, place, x.comes) + ","
				for _, word := range strings.Fields(x.below) {
					right(t, prog(body), line+stackOf(height+1, place, word))
				}
				for _, word := range strings.Fields(x.beside) {
					wrong(t, prog(body), line+stackOf(height+1, place, word))
				}
			}
		}
	}
}

// stackOf: height words, I but at a place.
func stackOf(height, place int, word string) string {
	words := many(height, "I")
	if place < height {
		words[place] = word
	}
	return strings.Join(words, " ")
}

// What comes has to be below what stands there, not the other way round.
func TestTheOtherWayRound(t *testing.T) {
	right(t, prog(api.OpNull, in(api.OpJump, 2), api.OpLenB, api.OpRet), ", N, B, I")
	right(t, prog(api.OpNull, in(api.OpJump, 2), api.OpLenB, api.OpRet), ", B, B, I")
	wrong(t, prog(api.OpNull, in(api.OpJump, 2), api.OpLenB, api.OpRet), ", B, N, I")
	wrong(t, prog(api.OpNull, in(api.OpJump, 2), api.OpIsNull, api.OpRet), ", A, B, I")
	wrong(t, prog(api.OpText, in(api.OpJump, 2), api.OpIsNull, api.OpRet), ", B, N, I")
	wrong(t, prog(api.OpText, in(api.OpJump, 2), api.OpPop, back()), ", X, B, , I")
}

// Both ways of a jump that may go on: the next one, and A.
func TestBothWays(t *testing.T) {
	m := prog(api.OpText, perhaps(5), api.OpLenB, api.OpRet, api.OpIsNull, api.OpRet)
	right(t, m, ", B, B I, B, I, B, I")
	right(t, m, ", B, B I, B, I, A, I") // each for itself
	wrong(t, m, ", B, B I, A, I, A, I")
	for _, other := range []string{"-", "- B", "", "N", "L", "I", "B B", "Q"} {
		wrong(t, m, ", B, B I, B, I, "+other+", I")
		wrong(t, m, ", B, B I, "+other+", I, B, I")
		wrong(t, m, ", B, B I, "+other+", I, "+other+", I")
	}
	right(t, prog(perhaps(2), back()), ", I, , I") // the next one, both ways
	wrong(t, prog(perhaps(2), back()), ", I, I, I I")
	wrong(t, prog(perhaps(2), back()), ", I, -, -")
}

func TestAJumpBack(t *testing.T) {
	for _, jump := range [][]api.Instr{code(api.OpNull, api.OpIsNull, in(api.OpZero, 1)), code(in(api.OpJump, 1), api.OpAdd, api.OpAdd)} {
		m := prog(api.OpNull, api.OpDup, api.OpPop, api.OpPop, api.OpText, jump, api.OpPop, back())
		end := ", B, B N, B I, B, , I"
		if jump[0].Op == api.OpJump {
			end = ", B, -, -, -, -, -"
		}
		right(t, m, ", B, B B, B, "+end)
		right(t, m, ", A, A A, A, "+end)
		right(t, m, ", X, X X, X, "+end)
		right(t, m, ", B, A A, X, "+end)
		wrong(t, m, ", N, N N, N, "+end) // what comes back is no Sub of it
		wrong(t, m, ", L, L L, L, "+end)
		wrong(t, m, ", A, B B, B, "+end)
		wrong(t, m, ", A, A A, B, "+end)
		wrong(t, m, ", , N, , "+end) // another height
		wrong(t, m, ", B B, B B B, B B, B"+end)
	}
}

func TestAJumpBackToTheFirst(t *testing.T) {
	right(t, prog(api.OpInt, api.OpPop, in(api.OpJump, 0)), ", I, ")
	wrong(t, prog(api.OpInt, api.OpNull, in(api.OpJump, 0)), ", I, I N")
	right(t, prog(api.OpInt, in(api.OpZero, 0), back()), ", I, , I")
	wrong(t, prog(api.OpInt, perhaps(0), back()), ", I, I I, I, I I")
	wrong(t, prog(api.OpNull, in(api.OpJump, 0)), ", N")
}

func TestWhatIsNotSeen(t *testing.T) {
	right(t, prog(back(), api.OpAdd), ", I, -")
	right(t, prog(in(api.OpJump, 2), api.OpAdd, back()), ", -, , I")
	right(t, prog(back(), api.OpText, in(api.OpJump, 1)), ", I, -, -") // what it would bring there counts for nothing
	right(t, prog(back(), in(api.OpJump, 3), in(api.OpJump, 2)), ", I, -, -")
	m := with(prog(back()), api.Func{Ret: text, Code: code(in(api.OpJump, 0), api.OpRet, api.OpText, in(api.OpJump, 1))})
	right(t, m, ", I", ", -, -, -")
	wrong(t, m, ", I", ", -, -, ")
}

// Also where its instruction would have had an error, and whatever Stack it says.
func TestWhatIsNotSeenIsNotAsked(t *testing.T) {
	stacks := []string{"", "I", "B", "I I", "X", "Q5", "R99", "H77 N9", "I B L R H N A X", strings.Repeat("Q ", api.MaxStack)}
	for op := range api.Ops {
		for _, stack := range stacks {
			right(t, prog(back(), in(op)), ", I, - "+stack)
			right(t, prog(in(api.OpJump, 2), in(op), back()), ", - "+stack+", , I")
			right(t, prog(api.OpInt, in(api.OpJump, 3), in(op), api.OpRet), ", I, - "+stack+", I")
			m := with(prog(back()), api.Func{Ret: number, Locals: []api.Type{number}, Code: code(back(), in(op), back(), in(op))})
			right(t, m, ", I", fmt.Sprintf(", I, - %s, -, - %s, - %s", stack, stack, stack))
		}
		wrong(t, prog(back(), in(op)), ", I, Q Q") // it is asked, once it is said to be Seen
	}
}
