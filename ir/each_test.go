package ir

import (
	"slices"
	"testing"

	"chrysalis/api"
	"chrysalis/sane"
)

// told: what i, an instruction of f, takes, and how many it puts, by chapter 8's words, written out; where any one would do, one of them.
func told(m api.Module, f api.Func, i api.Instr) ([]api.Type, int) {
	switch i.Op {
	case 0, 1, 2, 3:
		return nil, 1
	case 4:
		return is(slices.Concat(f.Args, f.Locals)[i.A]), 0
	case 5:
		return is(text), 0
	case 6:
		return is(rec(1)), 2
	case 7:
		return is(text, han(1)), 2
	case 22:
		return is(number, number), 2
	case 23:
		return nil, 0
	case 24:
		return is(number), 0
	case 25:
		return m.Funcs[i.A].Args, 1
	case 26:
		return is(f.Ret), 0
	case 27:
		return m.Imports[i.A].Args, 1
	case 28:
		return m.Recs[i.A], 1
	case 29:
		return is(rec(i.A)), 1
	case 30:
		return is(rec(i.A), m.Recs[i.A][i.B]), 0
	case 31, 35:
		return is(number), 1
	case 32:
		return is(list, number), 1
	case 33:
		return is(list, number, number), 0
	case 34:
		return is(list), 1
	case 36:
		return is(text, number), 1
	case 37:
		return is(text, number, number), 0
	case 38:
		return is(text), 1
	case 39:
		return is(rec(0)), 1
	case 40:
		return is(text, rec(1)), 1
	case 41:
		return is(han(3)), 0
	}
	return is(number, number), 1 // 8 to 21
}

// puts: what puts something that may stand for x.
func puts(x api.Type) api.Instr {
	switch x.Kind {
	case api.Int:
		return in(api.OpInt)
	case api.Bytes:
		return in(api.OpText)
	case api.Han:
		return in(api.OpHost, x.N)
	}
	return in(api.OpNull)
}

// around: code in which i stands behind what puts so many others, then what it takes; behind it stands one that goes on for ever, whatever is there.
func around(m api.Module, f api.Func, i api.Instr, below int) []api.Instr {
	var out []api.Instr
	for k := range below {
		out = append(out, puts(is(number, text, null, han(2))[k%4]))
	}
	taken, _ := told(m, f, i)
	for _, x := range taken {
		out = append(out, puts(x))
	}
	if i.Op == api.OpJump || i.Op == api.OpZero {
		i.A = len(out) + 1
	}
	return append(out, i, in(api.OpJump, len(out)+1))
}

// home: a program with i in function 1, which has these arguments and locals, behind what it takes and so many others.
func home(args, locals []api.Type, i api.Instr, below int) api.Module {
	f := api.Func{Args: args, Ret: text, Locals: locals}
	m := bare(
		api.Func{Ret: number, Code: back()}, f,
		api.Func{Args: is(number, text, rec(0), han(2)), Ret: han(3), Code: code(in(api.OpJump, 0))},
		api.Func{Args: is(any0), Ret: any0, Locals: is(any0), Code: code(in(api.OpGet, 1), api.OpRet)},
		api.Func{Args: is(number, number), Ret: number, Code: back()},
	)
	m.Funcs[1].Code = around(m, f, i, below)
	return m
}

// everyone: each instruction that may stand in a function with these arguments and locals, with each thing that it may name.
func everyone(args, locals []api.Type) []api.Instr {
	var out []api.Instr
	for op := range api.Ops {
		for a := range 8 {
			for b := range 6 {
				m := bare(many(5, api.Func{Args: args, Ret: number, Locals: locals, Code: code(in(op, a, b))})...)
				jumps := op == api.OpJump || op == api.OpZero // where to is told later
				if sane.Check(m) == api.OK && (!jumps || a == 0) {
					out = append(out, in(op, a, b))
				}
			}
		}
	}
	return out
}

// whole: what has to become of the code of function 1 of a home.
func whole(m api.Module, below int) []Ins {
	f := m.Funcs[1]
	var out []Ins
	height := 0
	for _, i := range f.Code[:len(f.Code)-1] {
		taken, put := told(m, f, i)
		height -= len(taken)
		out = append(out, Ins{i.Op, i.A, i.B, len(f.Args) + len(f.Locals) + height, len(taken), put})
		height += put
	}
	last := f.Code[len(f.Code)-1]
	if out[len(out)-1].Op == api.OpRet {
		return append(out, Ins{})
	}
	return append(out, Ins{last.Op, last.A, 0, len(f.Args) + len(f.Locals) + height, 0, 0})
}

// Each instruction, with each thing that it may name, at each height, in functions with some arguments and locals.
func TestEachInstruction(t *testing.T) {
	frames := []struct{ args, locals []api.Type }{
		{nil, nil}, {is(han(0)), nil}, {nil, is(number)}, {is(number, han(3)), is(text)}, {is(han(1), rec(2), list, number), is(any0, rec(0), text, number)},
		{nil, is(text, list, any0, rec(0), rec(1), rec(2), number, number)}, {many(api.MaxArgs, number), nil},
	}
	asked := map[int]int{}
	for _, x := range frames {
		for _, i := range everyone(x.args, x.locals) {
			for below := range api.MaxStack + 1 {
				m := home(x.args, x.locals, i, below)
				taken, put := told(m, m.Funcs[1], i)
				if below+max(len(taken), put) > api.MaxStack {
					refused(t, m, api.ErrType)
					break
				}
				asked[i.Op]++
				got, e := Compile(m)
				if want := whole(m, below); e != api.OK || len(got) != 5 || !slices.Equal(got[1], want) {
					t.Fatalf("%+v, %d; not %+v; %+v", got, e, want, m)
				}
			}
		}
	}
	for op := range api.Ops {
		if asked[op] < 6*len(frames) && asked[op] < 40 {
			t.Errorf("instruction %d stood in %d programs", op, asked[op])
		}
	}
}

// What it takes and puts is told by the instruction, not by what stands there: each of a kind that would do for a wanted one.
func TestOthersThatDo(t *testing.T) {
	for _, x := range []api.Instr{in(api.OpInt), in(api.OpText), in(api.OpNull), in(api.OpHost, 1), in(api.OpGet, 3)} {
		comes(t, prog(x, api.OpPop, back()), "4 0>1, 4 1>0, 4 0>1, 4 1>0")
		comes(t, prog(x, api.OpDup, back()), "4 0>1, 4 1>2, 6 0>1, 6 1>0")
		comes(t, prog(x, x, api.OpSwap, back()), "4 0>1, 5 0>1, 4 2>2, 6 0>1, 6 1>0")
		comes(t, prog(api.OpText, x, api.OpSwap, api.OpLenB, api.OpRet), "4 0>1, 5 0>1, 4 2>2, 5 1>1, 5 1>0")
	}
	for _, x := range []api.Instr{in(api.OpText), in(api.OpNull), in(api.OpGet, 3), in(api.OpGet, 2), in(api.OpNew, 1)} {
		comes(t, prog(x, api.OpIsNull, api.OpRet), "4 0>1, 4 1>1, 4 1>0")
		comes(t, prog(x, api.OpNull, api.OpSame, api.OpRet), "4 0>1, 5 0>1, 4 2>1, 4 1>0")
	}
	for n := range api.MaxKinds {
		comes(t, prog(in(api.OpHost, n), api.OpClose, back()), "4 0>1, 4 1>0, 4 0>1, 4 1>0")
		comes(t, prog(in(api.OpHost, 3-n), in(api.OpHost, n), api.OpClose, back()), "4 0>1, 5 0>1, 5 1>0, 5 0>1, 5 1>0")
	}
	comes(t, prog(api.OpNull, in(api.OpSet, 1), api.OpNull, in(api.OpSet, 2), api.OpNull, in(api.OpSet, 3), back()), "4 0>1, 4 1>0, 4 0>1, 4 1>0, 4 0>1, 4 1>0, 4 0>1, 4 1>0")
	comes(t, prog(api.OpNull, api.OpInt, api.OpLoad, api.OpRet), "4 0>1, 5 0>1, 4 2>1, 4 1>0")
}

// As many as a function, an import, or a record has.
func TestAsManyAsThereAre(t *testing.T) {
	for n := range api.MaxArgs + 1 {
		m := prog(many(n+1, in(api.OpInt)), in(api.OpCall, 1), api.OpAdd, api.OpRet)
		m = with(m, api.Func{Args: many(n, number), Ret: number, Code: back()})
		if got := seen(t, m)[n+1]; got != (Ins{api.OpCall, 1, 0, 5, n, 1}) {
			t.Errorf("%d arguments: %+v", n, got)
		}
		m = prog(many(n+1, in(api.OpInt)), in(api.OpHost, 1), api.OpAdd, api.OpRet)
		m.Imports = []api.Import{{Ret: han(0)}, {Args: many(n, number), Ret: number}}
		if got := seen(t, m)[n+1]; got != (Ins{api.OpHost, 1, 0, 5, n, 1}) {
			t.Errorf("%d of an import: %+v", n, got)
		}
	}
	for n := range api.MaxFields + 1 {
		m := prog(many(n+1, in(api.OpInt)), in(api.OpNew, 1), api.OpPop, api.OpRet)
		m.Recs = [][]api.Type{{text}, many(n, number)}
		if got := seen(t, m)[n+1]; got != (Ins{api.OpNew, 1, 0, 5, n, 1}) {
			t.Errorf("%d fields: %+v", n, got)
		}
	}
}

// seen: what became of m's first function, each instruction of which is Seen.
func seen(t *testing.T, m api.Module) []Ins {
	t.Helper()
	got, e := Compile(m)
	if e != api.OK {
		t.Fatalf("%d; %+v", e, m)
	}
	if slices.Contains(got[0], Ins{}) {
		t.Fatalf("nothing of some: %+v", got[0])
	}
	return got[0]
}
