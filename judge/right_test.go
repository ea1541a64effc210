package judge

import (
	"testing"

	"chrysalis/api"
	"chrysalis/verify"
)

func TestExamples(t *testing.T) { // the chapter's own, and the document's of this layer
	m := prog(back())
	wrong(t, m) // no maps
	answers(t, false, m, [][]api.Shape{})
	right(t, m, ", I") // OpInt, OpRet
	loop := prog(api.OpInt, in(api.OpJump, 0))
	for _, line := range []string{", I", "I, I I", "I, ", ", ", "X, X", "-, I", ", -", "-, -"} { // a loop that leaves a number each time
		wrong(t, loop, line)
	}
	right(t, prog(api.OpInt, in(api.OpCall, 0), api.OpRet), ", I, I I") // A calls A
}

func TestWithoutJumps(t *testing.T) {
	right(t, prog(api.OpInt, api.OpText, api.OpNull, api.OpSwap, api.OpSame, api.OpAdd, api.OpRet), ", I, I B, I B N, I N B, I I, I")
	wrong(t, prog(api.OpInt, api.OpText, api.OpNull, api.OpSwap, api.OpPop, api.OpAdd, api.OpRet), ", I, I B, I B N, I N B, I I, I")
	right(t, prog(api.OpInt, api.OpInt, api.OpRet), ", I, I I") // what is below the result may stay
	right(t, prog(
		in(api.OpHost, 1), api.OpDup, api.OpClose, api.OpClose,
		api.OpInt, api.OpInts, in(api.OpSet, 2), in(api.OpGet, 2), api.OpLen,
		api.OpNull, api.OpText, in(api.OpNew, 0), api.OpDup, in(api.OpField, 0, 1), api.OpIsNull,
		api.OpPop, in(api.OpSet, 4), in(api.OpGet, 4), api.OpNull, api.OpSame, api.OpRet,
	), ", H, H H, H, , I, L, , L, I, I N, I N B, R, R R, R R1, R I, R, , A, A N, I")
	right(t, prog(api.OpInt, api.OpInt, api.OpTwist, in(api.OpHost, 2), in(api.OpHost, 3), api.OpMul, api.OpRet), ", I, I I, I I, I I H1, I I, I")
}

func TestLoops(t *testing.T) {
	right(t, prog(perhaps(0), back()), ", I, , I")
	right(t, prog(api.OpText, perhaps(1), api.OpPop, back()), ", B, B I, B, , I")
	right(t, prog(api.OpText, api.OpInt, api.OpSwap, api.OpSwap, in(api.OpJump, 2)), ", B, B I, I B, B I") // it never ends
	right(t, prog(api.OpNull, api.OpPop, api.OpText, perhaps(1), api.OpPop, back()), ", B, , B, B I, B, , I")
	wrong(t, prog(api.OpNull, api.OpPop, api.OpText, perhaps(1), api.OpPop, back()), ", N, , B, B I, B, , I") // Bytes come back to Null
	right(t, prog(api.OpText, api.OpPop, api.OpInt, perhaps(1), api.OpPop, back()), ", X, , I, I I, I, , I")
	wrong(t, prog(api.OpText, api.OpPop, api.OpInt, perhaps(1), api.OpPop, back()), ", B, , I, I I, I, , I")
	right(t, prog(api.OpText, api.OpNull, api.OpSwap, perhaps(2), api.OpSame, api.OpRet), ", B, B B, B B, B B I, B B, I")
	wrong(t, prog(api.OpText, api.OpNull, api.OpSwap, perhaps(2), api.OpSame, api.OpRet), ", B, B N, N B, N B I, N B, I") // two places change round
	right(t, prog(in(api.OpJump, 0)), "")
	right(t, prog(api.OpInt, in(api.OpJump, 1)), ", I")
}

func TestJoins(t *testing.T) {
	two := prog(perhaps(4), api.OpText, in(api.OpJump, 5), api.OpNull, api.OpLenB, api.OpRet) // Bytes on one way, Null on the other
	right(t, two, ", I, , B, , B, I")
	wrong(t, two, ", I, , B, , N, I")
	refs := prog(perhaps(4), api.OpText, in(api.OpJump, 5), in(api.OpGet, 2), api.OpIsNull, api.OpRet)
	right(t, refs, ", I, , B, , A, I")
	wrong(t, refs, ", I, , B, , B, I")
	wrong(t, refs, ", I, , B, , L, I")
	apart := prog(perhaps(4), api.OpText, in(api.OpJump, 5), api.OpInt, api.OpPop, back())
	right(t, apart, ", I, , B, , X, , I")
	wrong(t, apart, ", I, , B, , B, , I")
	wrong(t, apart, ", I, , B, , I, , I")
	wrong(t, apart, ", I, , B, , A, , I")
	for _, line := range []string{", I, , I, , I, I", ", I, , I, , X, I", ", I, , I, , , I", ", I, , I, , I I, I", ", I, , I, , -, -"} { // two heights
		wrong(t, prog(perhaps(4), api.OpInt, in(api.OpJump, 5), in(api.OpJump, 5), api.OpInt, api.OpRet), line)
	}
}

func TestSeveralFunctions(t *testing.T) {
	m := prog(api.OpInt, api.OpText, in(api.OpCall, 1), api.OpLenB, api.OpRet)
	m = with(m, api.Func{Args: []api.Type{number, text}, Ret: text, Code: code(in(api.OpGet, 1), api.OpRet)})
	m = with(m, api.Func{Args: []api.Type{han(3)}, Ret: rec(0), Code: code(in(api.OpGet, 0), api.OpClose, api.OpNull, api.OpRet)}) // nobody calls it
	m = with(m, api.Func{Ret: han(2), Code: code(in(api.OpJump, 0))})                                                              // nor this
	m = with(m, api.Func{Args: []api.Type{any0}, Ret: any0, Locals: []api.Type{list}, Code: code(in(api.OpGet, 1), in(api.OpCall, 4), in(api.OpCall, 4), api.OpRet)})
	good := []string{", I, I B, B, I", ", B", ", H3, , N", "", ", L, A, A"}
	right(t, m, good...)
	for f, spoilt := range []string{", I, I N, B, I", ", N", ", H2, , N", "I", ", L, L, A"} {
		lines := append([]string{}, good...)
		lines[f] = spoilt
		wrong(t, m, lines...)
		lines = append(append([]string{}, good...)[:f], good[f+1:]...)
		wrong(t, m, lines...)
	}
	wrong(t, m, good[1], good[0], good[2], good[3], good[4]) // each stands for its own function
	one, other := api.Func{Ret: text, Code: code(api.OpText, api.OpRet)}, api.Func{Ret: list, Code: code(in(api.OpNull), api.OpRet)}
	right(t, with(with(prog(back()), one), other), ", I", ", B", ", N")
	wrong(t, with(with(prog(back()), one), other), ", I", ", N", ", B")
}

// The function's own number says which arguments, locals and result are meant.
func TestTheSameCodeInTwoFunctions(t *testing.T) {
	body := code(in(api.OpGet, 0), api.OpRet)
	m := with(with(prog(body), api.Func{Args: []api.Type{text}, Ret: text, Code: body}), api.Func{Args: []api.Type{any0}, Ret: any0, Code: body})
	right(t, m, ", I", ", B", ", A")
	wrong(t, m, ", I", ", B", ", B")
	wrong(t, m, ", I", ", I", ", A")
	right(t, m, ", I", ", B", ", A")
	m.Funcs[2].Ret = text
	wrong(t, m, ", I", ", B", ", A")
}

// programs: some of each sort that chapter 9's Check has an answer to.
func programs() []api.Module {
	second := api.Func{Args: []api.Type{text, number}, Ret: any0, Locals: []api.Type{list}, Code: code(in(api.OpGet, 0), in(api.OpGet, 1), in(api.OpZero, 4), api.OpRet, api.OpPop, in(api.OpGet, 2), api.OpRet)}
	return []api.Module{
		prog(back()),
		prog(in(api.OpJump, 0)),
		prog(back(), api.OpPop, in(api.OpJump, 2)),
		prog(api.OpInt, api.OpText, api.OpNull, api.OpSwap, api.OpSame, api.OpAdd, api.OpRet),
		prog(api.OpNull, api.OpText, api.OpSwap, api.OpPop, api.OpInt, api.OpInts, perhaps(2), api.OpSame, api.OpRet),
		prog(in(api.OpGet, 3), api.OpDup, in(api.OpField, 0, 2), in(api.OpPut, 0, 2), in(api.OpHost, 2), api.OpClose, back()),
		prog(perhaps(4), api.OpText, in(api.OpJump, 5), api.OpInt, api.OpPop, back()),
		prog(api.OpText, perhaps(5), perhaps(7), perhaps(1), perhaps(3), api.OpLenB, api.OpRet), // loops that cut across each other
		prog(api.OpText, api.OpInt, api.OpSwap, perhaps(2), api.OpPop, api.OpPop, back()),
		prog(in(api.OpJump, 5), back(), back(), back()),
		with(prog(api.OpText, api.OpInt, in(api.OpCall, 1), api.OpPop, back()), second),
		with(with(with(prog(back(), api.OpAdd), second), second), api.Func{Ret: text, Code: code(in(api.OpJump, 1), api.OpNull, perhaps(1+3), api.OpRet, in(api.OpSet, 0), api.OpText, api.OpRet), Locals: []api.Type{any0}}),
	}
}

// What chapter 9's Check answers is Right; and no longer, once something is changed that must not be.
func TestWhatVerifyAnswers(t *testing.T) {
	for _, m := range programs() {
		maps, f, pc, e := verify.Check(m)
		if e != api.OK {
			t.Fatalf("%d, at %d of %d: %+v", e, pc, f, m)
		}
		answers(t, true, m, maps)
		for f := range maps {
			for pc, s := range maps[f] {
				if !s.Seen {
					continue
				}
				spoilt := copied(maps, 0)
				spoilt[f][pc] = api.Shape{} // each one that Check says is Seen is led to
				answers(t, false, m, spoilt)
				spoilt[f][pc] = api.Shape{Seen: true, Stack: append(types("N"), s.Stack...)}
				answers(t, false, m, spoilt)
				if len(s.Stack) > 0 {
					spoilt[f][pc].Stack = s.Stack[1:]
					answers(t, false, m, spoilt)
				}
				for k := range s.Stack {
					spoilt = copied(maps, 0)
					spoilt[f][pc].Stack[k] = odd // nothing stands below it but itself
					answers(t, false, m, spoilt)
				}
			}
		}
	}
}

// unfit: ways of making a program one that does not fit.
func unfit() []func(m *api.Module) {
	return []func(m *api.Module){
		func(m *api.Module) { m.Recs = append(m.Recs, many(api.MaxFields+1, number)) },
		func(m *api.Module) { m.Recs = many(api.MaxRecs+1, m.Recs[0]) },
		func(m *api.Module) { m.Recs[1] = append(m.Recs[1], none) },
		func(m *api.Module) { m.Imports = many(api.MaxImports+1, m.Imports[0]) },
		func(m *api.Module) { m.Imports = append(m.Imports, api.Import{}) },
		func(m *api.Module) { m.Ints = make([]uint64, api.MaxConsts+1) },
		func(m *api.Module) { m.Texts = append(m.Texts, string(make([]byte, api.MaxText+1))) },
		func(m *api.Module) { m.Funcs[0].Code[2] = in(api.Ops) },
		func(m *api.Module) { m.Funcs[0].Code[2] = in(-1) },
		func(m *api.Module) { m.Funcs[0].Code[2] = in(api.OpAdd, 1) },
		func(m *api.Module) { m.Funcs[0].Code[2] = in(api.OpInt, -1) },
		func(m *api.Module) { m.Funcs[0].Locals = many(api.MaxLocals+1, number) },
		func(m *api.Module) { m.Funcs[0].Locals = append(m.Funcs[0].Locals, rec(2)) },
	}
}

// apart: ways of making a program one that does not hang together.
func apart() []func(m *api.Module) {
	names := func(i api.Instr) func(m *api.Module) {
		return func(m *api.Module) { m.Funcs[0].Code[2] = i }
	}
	return []func(m *api.Module){
		names(in(api.OpInt, 2)), names(in(api.OpText, 1)), names(in(api.OpGet, 5)), names(in(api.OpSet, 5)), names(in(api.OpJump, 3)), names(in(api.OpZero, 64)),
		names(in(api.OpCall, 2)), names(in(api.OpHost, 4)), names(in(api.OpNew, 2)), names(in(api.OpField, 2)), names(in(api.OpField, 0, 3)), names(in(api.OpPut, 1)),
		func(m *api.Module) { m.Funcs[0].Locals[2] = han(0) },
		func(m *api.Module) { m.Imports[0].Args = []api.Type{text} },
		func(m *api.Module) { m.Imports[2].Ret = any0 },
	}
}

// Neither of them is asked where it is never come to, so the Shapes would do.
func TestModulesThatDoNotHangTogether(t *testing.T) {
	for _, ways := range [][]func(m *api.Module){unfit(), apart()} {
		for _, way := range ways {
			m := prog(back(), api.OpPop)
			right(t, m, ", I, -")
			way(&m)
			wrong(t, m, ", I, -")
			m = with(prog(in(api.OpJump, 0), api.OpRet, api.OpAdd), api.Func{Ret: number, Code: back()})
			right(t, m, ", -, -", ", I")
			way(&m)
			wrong(t, m, ", -, -", ", I")
		}
	}
	wrong(t, api.Module{})
	wrong(t, api.Module{}, "")
	wrong(t, api.Module{Funcs: []api.Func{{}}}, "")
	answers(t, false, api.Module{Funcs: []api.Func{{}}}, [][]api.Shape{{}}) // as many Shapes as instructions: none
	m := with(prog(back()), api.Func{Ret: number})
	answers(t, false, m, [][]api.Shape{shapes(", I"), nil})
	m = prog(many(api.MaxCode-1, in(api.OpJump)), in(api.OpJump), back())
	answers(t, false, m, [][]api.Shape{many(api.MaxCode+2, api.Shape{Seen: true})}) // too much code
	m = prog(back())
	m.Funcs = many(api.MaxFuncs+1, m.Funcs[0])
	wrong(t, m, many(api.MaxFuncs+1, ", I")...)
}

// Each hangs together, and its Shapes hold.
func TestModulesThatAreNoMain(t *testing.T) {
	for _, x := range []api.Type{number, text, list, any0, rec(0), rec(1), han(0), han(3)} {
		for n := 1; n <= api.MaxArgs; n++ {
			m := prog(back())
			m.Funcs[0].Args, m.Funcs[0].Locals = many(n, x), nil
			wrong(t, m, ", I")
			m.Funcs[0].Args = nil
			right(t, m, ", I")
		}
		if x == number {
			continue
		}
		m := prog(in(api.OpJump, 0)) // it has any result
		right(t, m, "")
		m.Funcs[0].Ret = x
		wrong(t, m, "")
	}
	m := prog(api.OpText, api.OpRet)
	m.Funcs[0].Ret = text
	wrong(t, m, ", B")
}

// What another function than the first is handed and answers does not keep a program from beginning.
func TestMainIsFunction0Alone(t *testing.T) {
	second := api.Func{Args: []api.Type{text}, Ret: text, Code: code(in(api.OpGet, 0), api.OpRet)}
	m := with(prog(back()), second)
	right(t, m, ", I", ", B")
	m.Funcs[0], m.Funcs[1] = m.Funcs[1], m.Funcs[0]
	wrong(t, m, ", B", ", I")
}
