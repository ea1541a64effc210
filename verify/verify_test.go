package verify

import (
	"slices"
	"testing"

	"chrysalis/api"
)

func TestExamples(t *testing.T) { // the chapter's own, and the document's of this layer
	fails(t, prog(api.OpInt, in(api.OpJump, 0)), 0)                     // a loop that leaves a number each time
	fails(t, prog(api.OpInt, api.OpInt, in(api.OpJump, 1)), 0)          // begun higher up
	comes(t, prog(api.OpInt, api.OpRet), ", I")                         // Done behind two
	comes(t, prog(api.OpInt, in(api.OpCall, 0), api.OpRet), ", I, I I") // A calls A
}

func TestWithoutJumps(t *testing.T) {
	comes(t, prog(api.OpInt, api.OpText, api.OpNull, api.OpSwap, api.OpSame, api.OpAdd, api.OpRet), ", I, I B, I B N, I N B, I I, I")
	comes(t, prog(api.OpInt, api.OpInt, api.OpRet), ", I, I I") // what is below the result may stay
	comes(t, prog(
		in(api.OpHost, 1), api.OpDup, api.OpClose, api.OpClose,
		api.OpInt, api.OpInts, in(api.OpSet, 2), in(api.OpGet, 2), api.OpLen,
		api.OpNull, api.OpText, in(api.OpNew, 0), api.OpDup, in(api.OpField, 0, 1), api.OpIsNull,
		api.OpPop, in(api.OpSet, 4), in(api.OpGet, 4), api.OpNull, api.OpSame, api.OpRet,
	), ", H0, H0 H0, H0, , I, L, , L, I, I N, I N B, R0, R0 R0, R0 R1, R0 I, R0, , A, A N, I")
	comes(t, prog(api.OpInt, api.OpInt, api.OpTwist, in(api.OpHost, 2), in(api.OpHost, 3), api.OpMul, api.OpRet), ", I, I I, I I, I I H1, I I, I")
}

func TestForwardJumps(t *testing.T) {
	comes(t, prog(in(api.OpJump, 1), back()), ", , I")
	comes(t, prog(api.OpText, in(api.OpJump, 2), api.OpLenB, api.OpRet), ", B, B, I")
	comes(t, prog(perhaps(4), api.OpInt, api.OpRet, api.OpText, api.OpLenB, api.OpRet), ", I, , I, , B, I")
	comes(t, prog(perhaps(2), back()), ", I, , I") // the next one, both ways
	comes(t, prog(in(api.OpJump, 4), api.OpRet, in(api.OpJump, 1), api.OpRet, api.OpInt, in(api.OpJump, 2)), ", I, I, -, , I")
}

func TestFunctionsEachForItself(t *testing.T) {
	m := prog(api.OpInt, api.OpText, in(api.OpCall, 1), api.OpLenB, api.OpRet)
	m = with(m, api.Func{Args: []api.Type{number, text}, Ret: text, Code: code(in(api.OpGet, 1), api.OpRet)})
	m = with(m, api.Func{Args: []api.Type{han(3)}, Ret: rec(0), Code: code(in(api.OpGet, 0), api.OpClose, api.OpNull, api.OpRet)}) // nobody calls it
	m = with(m, api.Func{Ret: han(2), Code: code(in(api.OpJump, 0))})                                                              // nor this
	m = with(m, api.Func{Args: []api.Type{any0}, Ret: any0, Locals: []api.Type{list}, Code: code(in(api.OpGet, 1), in(api.OpCall, 4), in(api.OpCall, 4), api.OpRet)})
	comes(t, m, ", I, I B, B, I", ", B", ", H3, , N", "", ", L, A, A")
}

// What is called is taken at its word: its own code is asked where it stands.
func TestCalls(t *testing.T) {
	m := prog(in(api.OpCall, 1), api.OpLenB, api.OpRet)
	comes(t, with(m, api.Func{Ret: text, Code: code(api.OpNull, api.OpRet)}), ", B, I", ", N")
	fails(t, with(m, api.Func{Ret: any0, Code: code(api.OpText, api.OpRet)}), 0)
	m = prog(in(api.OpCall, 1), api.OpRet)
	m = with(m, api.Func{Ret: number, Code: code(in(api.OpCall, 2), api.OpRet)})
	m = with(m, api.Func{Ret: number, Code: code(in(api.OpCall, 1), api.OpRet)}) // each calls the other one
	comes(t, m, ", I", ", I", ", I")
	body := code(api.OpText, api.OpRet) // the same code, with two results
	comes(t, with(prog(back()), api.Func{Ret: text, Code: body}), ", I", ", B")
	fails(t, with(prog(back()), api.Func{Ret: list, Code: body}), 1)
	body = code(in(api.OpGet, 0), api.OpRet) // with two arguments
	comes(t, with(prog(back()), api.Func{Args: []api.Type{list}, Ret: list, Code: body}), ", I", ", L")
	fails(t, with(prog(back()), api.Func{Args: []api.Type{any0}, Ret: list, Code: body}), 1)
}

// Arguments are locals, and stand on no stack.
func TestEachFunctionBeginsWithNothing(t *testing.T) {
	for n := range api.MaxArgs + 1 {
		f := api.Func{Args: many(n, number), Ret: number, Code: back()}
		comes(t, with(prog(back()), f), ", I", ", I")
		f.Code = code(api.OpRet)
		fails(t, with(prog(back()), f), 1)
	}
}

func TestWhatIsNeverComeTo(t *testing.T) {
	comes(t, prog(back(), api.OpAdd), ", I, -")
	comes(t, prog(in(api.OpJump, 2), api.OpAdd, back()), ", -, , I")
	comes(t, prog(back(), api.OpText, in(api.OpJump, 1)), ", I, -, -")                // what it would bring there counts for nothing
	comes(t, prog(back(), api.OpText, api.OpText, in(api.OpJump, 0)), ", I, -, -, -") // nor its height
	comes(t, prog(back(), in(api.OpJump, 3), in(api.OpJump, 2)), ", I, -, -")         // in a ring
	comes(t, prog(back(), perhaps(0), in(api.OpJump, 2)), ", I, -, -, -")
	comes(t, prog(in(api.OpJump, 5), back(), back(), back()), ", -, -, -, -, , I")
	m := with(prog(back()), api.Func{Ret: text, Code: code(in(api.OpJump, 0), api.OpRet, api.OpText, in(api.OpJump, 1))})
	comes(t, m, ", I", ", -, -, -")
}

// Also where its instruction would have had an error: each of them alone behind an OpRet would go on behind the last one, but for two.
func TestWhatIsNeverComeToHasNoError(t *testing.T) {
	for op := range api.Ops {
		comes(t, prog(back(), in(op)), ", I, -")
		comes(t, prog(in(api.OpJump, 2), in(op), back()), ", -, , I")
		comes(t, prog(api.OpInt, in(api.OpJump, 3), in(op), api.OpRet), ", I, -, I")
		m := with(prog(back()), api.Func{Ret: number, Locals: []api.Type{number}, Code: code(back(), in(op), back(), in(op))})
		comes(t, m, ", I", ", I, -, -, -, -")
	}
}

func TestAnErrorAtOnce(t *testing.T) {
	fails(t, prog(api.OpRet), 0)
	fails(t, prog(api.OpAdd, api.OpRet), 0)
	fails(t, prog(api.OpInt, api.OpAdd, api.OpRet), 0)
	fails(t, prog(api.OpText, api.OpRet), 0)
	fails(t, prog(api.OpText, api.OpLen, api.OpRet), 0)
	fails(t, prog(in(api.OpGet, 4), in(api.OpSet, 1), back()), 0)
	fails(t, prog(in(api.OpHost, 1), in(api.OpHost, 3), api.OpRet), 0)
	fails(t, prog(api.OpInt, in(api.OpHost, 1), in(api.OpHost, 3), api.OpRet), 0) // a handle of another kind
	fails(t, prog(perhaps(4), back(), api.OpPop, back()), 0)                      // on one of two ways alone
	fails(t, prog(perhaps(3), api.OpPop, back()), 0)                              // on the other one
}

func TestAnErrorInAnotherFunction(t *testing.T) {
	good, bad := api.Func{Ret: number, Code: back()}, api.Func{Ret: number, Code: code(api.OpInt, api.OpPop, api.OpRet)}
	for n := 1; n < api.MaxFuncs; n++ {
		for wrong := 1; wrong <= n; wrong++ {
			m := prog(back())
			for k := 1; k <= n; k++ {
				if k == wrong {
					m = with(m, bad)
				} else {
					m = with(m, good)
				}
			}
			fails(t, m, wrong)
			m.Funcs[0].Code = code(in(api.OpCall, wrong), api.OpRet) // it is called, too
			fails(t, m, wrong)
		}
	}
	m := with(with(prog(api.OpPop, back()), bad), good) // two that are wrong
	maps, f, pc, e := Check(m)
	if e != api.ErrType || len(maps) != 0 || f < 0 || f > 1 || pc < 0 || pc >= len(m.Funcs[f].Code) {
		t.Error(said(maps, f, pc, e))
	}
}

func TestGoingOnBehindTheLastOne(t *testing.T) {
	fails(t, prog(api.OpInt), 0)
	fails(t, prog(api.OpInt, api.OpPop), 0)
	fails(t, prog(api.OpInt, in(api.OpZero, 0)), 0)
	fails(t, prog(api.OpInt, api.OpInt, in(api.OpZero, 0)), 0)
	fails(t, prog(perhaps(4), back(), api.OpInt), 0) // on one of two ways alone
	fails(t, prog(in(api.OpJump, 3), back(), in(api.OpJump, 4), api.OpNull), 0)
	fails(t, with(prog(back()), api.Func{Ret: text, Code: code(api.OpText)}), 1)
	fails(t, with(prog(back()), api.Func{Args: []api.Type{text}, Ret: number, Code: code(perhaps(4), back(), in(api.OpGet, 0))}), 1)
	comes(t, prog(in(api.OpJump, 0)), "") // it goes back, or nowhere
	comes(t, prog(api.OpInt, in(api.OpJump, 3), in(api.OpJump, 3), in(api.OpJump, 2)), ", I, I, I")
}

func TestOneInstruction(t *testing.T) {
	for op := range api.Ops {
		alone, second := prog(in(op)), with(prog(back()), api.Func{Ret: any0, Locals: []api.Type{number}, Code: code(in(op))})
		if op == api.OpJump {
			comes(t, alone, "")
			comes(t, second, ", I", "")
		} else {
			fails(t, alone, 0)
			fails(t, second, 1)
		}
	}
}

// unfit: ways of making a program one that does not fit.
func unfit() []func(m *api.Module) {
	return []func(m *api.Module){
		func(m *api.Module) { m.Funcs = nil },
		func(m *api.Module) { m.Funcs = many(api.MaxFuncs+1, m.Funcs[0]) },
		func(m *api.Module) { m.Recs = append(m.Recs, many(api.MaxFields+1, number)) },
		func(m *api.Module) { m.Recs = many(api.MaxRecs+1, m.Recs[0]) },
		func(m *api.Module) { m.Recs[1] = append(m.Recs[1], none) },
		func(m *api.Module) { m.Imports = many(api.MaxImports+1, m.Imports[0]) },
		func(m *api.Module) { m.Imports[0].Args = many(api.MaxArgs+1, number) },
		func(m *api.Module) { m.Imports = append(m.Imports, api.Import{}) },
		func(m *api.Module) { m.Ints = make([]uint64, api.MaxConsts+1) },
		func(m *api.Module) { m.Texts = make([]string, api.MaxConsts+1) },
		func(m *api.Module) { m.Texts = append(m.Texts, string(make([]byte, api.MaxText+1))) },
		func(m *api.Module) { m.Funcs[0].Code = nil },
		func(m *api.Module) { m.Funcs[0].Code = many(api.MaxCode+1, in(api.OpJump)) },
		func(m *api.Module) { m.Funcs[0].Code[0] = in(api.Ops) },
		func(m *api.Module) { m.Funcs[0].Code[0] = in(-1) },
		func(m *api.Module) { m.Funcs[0].Code[0] = in(api.OpAdd, 1) },
		func(m *api.Module) { m.Funcs[0].Code[0] = in(api.OpInt, -1) },
		func(m *api.Module) { m.Funcs[0].Code[0] = in(api.OpJump, 256) },
		func(m *api.Module) { m.Funcs[0].Locals = many(api.MaxLocals+1, number) },
		func(m *api.Module) { m.Funcs[0].Locals = append(m.Funcs[0].Locals, rec(2)) },
		func(m *api.Module) { m.Funcs[0].Args = many(api.MaxArgs+1, number) },
		func(m *api.Module) { m.Funcs[0].Ret = null },
		func(m *api.Module) { *m = with(*m, api.Func{Ret: number}) },
	}
}

// apart: ways of making a program one that does not hang together.
func apart() []func(m *api.Module) {
	names := func(i api.Instr) func(m *api.Module) {
		return func(m *api.Module) { m.Funcs[0].Code[len(m.Funcs[0].Code)-1] = i }
	}
	return []func(m *api.Module){
		names(in(api.OpInt, 2)), names(in(api.OpText, 1)), names(in(api.OpGet, 5)), names(in(api.OpSet, 5)), names(in(api.OpJump, 64)), names(in(api.OpZero, 64)),
		names(in(api.OpCall, 8)), names(in(api.OpHost, 4)), names(in(api.OpNew, 2)), names(in(api.OpField, 2)), names(in(api.OpField, 0, 3)), names(in(api.OpPut, 1)),
		func(m *api.Module) { m.Funcs[0].Locals[2] = han(0) },
		func(m *api.Module) { m.Imports[0].Args = []api.Type{text} },
		func(m *api.Module) { m.Imports[2].Ret = any0 },
		func(m *api.Module) { *m = with(*m, api.Func{Ret: number, Code: code(in(api.OpGet, 0), api.OpRet)}) },
	}
}

// noMain: ways of making a program one that hangs together, but is no Main.
func noMain() []func(m *api.Module) {
	var out []func(m *api.Module)
	for _, x := range []api.Type{number, text, list, any0, rec(0), rec(1), han(0), han(3)} {
		out = append(out, func(m *api.Module) {
			m.Funcs[0].Args, m.Funcs[0].Locals = []api.Type{x}, m.Funcs[0].Locals[1:]
		})
		if x != number {
			out = append(out, func(m *api.Module) { m.Funcs[0].Ret = x })
		}
	}
	return append(out, func(m *api.Module) { m.Funcs[0].Args, m.Funcs[0].Locals = many(4, number), nil })
}

// The program's types are right, or are wrong: neither is asked where an error comes earlier.
func TestWhichErrorComesFirst(t *testing.T) {
	for _, body := range [][]api.Instr{code(back(), api.OpPop), code(api.OpPop, back(), api.OpPop)} {
		refusedWith := func(e api.Errno, ways ...func(m *api.Module)) {
			t.Helper()
			m := prog(body)
			for _, way := range ways {
				way(&m)
			}
			refused(t, m, e)
		}
		for _, spoil := range unfit() {
			refusedWith(api.ErrForm, spoil)
			for _, tear := range apart() {
				refusedWith(api.ErrForm, tear, spoil)
			}
			for _, mar := range noMain()[:2] {
				refusedWith(api.ErrForm, mar, spoil)
			}
		}
		for _, tear := range apart() {
			refusedWith(api.ErrArg, tear)
		}
		for _, mar := range noMain() {
			refusedWith(api.ErrArg, mar)
		}
	}
	comes(t, prog(back(), api.OpPop), ", I, -") // what the ways above made wrong
	fails(t, prog(api.OpPop, back(), api.OpPop), 0)
	refused(t, api.Module{}, api.ErrForm)
	refused(t, api.Module{Funcs: []api.Func{{}}}, api.ErrForm)
}

// What another function than the first is handed and answers does not keep a program from beginning.
func TestMainIsFunction0Alone(t *testing.T) {
	first := prog(back()).Funcs[0]
	second := api.Func{Args: []api.Type{text}, Ret: text, Code: code(in(api.OpGet, 0), api.OpRet)}
	m := prog()
	m.Funcs = []api.Func{first, second}
	comes(t, m, ", I", ", B")
	slices.Reverse(m.Funcs)
	refused(t, m, api.ErrArg)
}
