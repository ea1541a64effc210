package ir

import (
	"fmt"
	"slices"
	"testing"

	"chrysalis/api"
)

// samples: programs of all sorts, and some with an error.
func samples() []api.Module {
	second := api.Func{Args: is(text, number), Ret: any0, Locals: is(list), Code: code(in(api.OpGet, 0), in(api.OpGet, 1), in(api.OpZero, 4), api.OpRet, api.OpPop, in(api.OpGet, 2), api.OpRet)}
	twice := with(with(prog(api.OpText, api.OpInt, in(api.OpCall, 1), api.OpPop, back()), second), second)
	noMain := prog(back())
	noMain.Funcs[0].Ret = any0
	return []api.Module{
		{}, noMain, twice,
		prog(back()),
		prog(in(api.OpJump, 0)),
		prog(back(), api.OpAdd),
		prog(many(api.MaxStack, in(api.OpInt)), in(api.OpJump, api.MaxStack)),
		prog(api.OpInt, api.OpText, perhaps(4), api.OpPop, back(), api.OpAdd),
		prog(in(api.OpGet, 3), api.OpDup, in(api.OpField, 0, 2), in(api.OpPut, 0, 2), in(api.OpHost, 2), api.OpClose, back()),
		with(prog(back()), second), with(with(prog(back()), second), api.Func{Ret: number, Code: code(api.OpAdd, api.OpRet)}),
		prog(api.OpInt, in(api.OpJump, 0)), prog(api.OpText, api.OpRet), prog(in(api.OpGet, 9), api.OpRet),
	}
}

// scribble: writes over a list, and the room behind it.
func scribble[T any](list []T, x T) {
	list = list[:cap(list)]
	for k := range list {
		list[k] = x
	}
}

// wreck: writes over all that was answered, the lists within the list first.
func wreck(got [][]Ins) {
	for _, list := range got {
		scribble(list, Ins{1, 2, 3, 4, 5, 6})
	}
	scribble(got, nil)
}

// wreckModule: writes over all of m, the lists within lists first.
func wreckModule(m api.Module) {
	for _, f := range m.Funcs {
		scribble(f.Args, odd)
		scribble(f.Locals, odd)
		scribble(f.Code, in(api.OpRet, 7, 8))
	}
	for _, i := range m.Imports {
		scribble(i.Args, odd)
	}
	for _, fields := range m.Recs {
		scribble(fields, odd)
	}
	scribble(m.Funcs, api.Func{Ret: odd})
	scribble(m.Imports, api.Import{Ret: odd})
	scribble(m.Recs, nil)
}

// said: what Compile answered, as a text.
func said(got [][]Ins, e api.Errno) string { return fmt.Sprintln(len(got), got, e) }

func TestModulesThatAreHandedInStay(t *testing.T) {
	for _, m := range samples() {
		m = again(m, 3)
		before := dump(m)
		for range 2 {
			got, _ := Compile(m)
			wreck(got)
			for f := range len(m.Funcs) + 1 {
				Regs(m, f)
			}
			if dump(m) != before {
				t.Errorf("changed: %+v", m)
			}
		}
	}
}

func TestSpareRoomIsNotAsked(t *testing.T) {
	for _, m := range samples() {
		more := again(m, 5)
		if got, want := said(Compile(more)), said(Compile(m)); got != want {
			t.Errorf("%s, not %s; %+v", got, want, m)
		}
		for f := range len(m.Funcs) + 5 {
			has(t, more, f, Regs(m, f))
		}
	}
	m := prog(back())
	m.Funcs[0].Code = m.Funcs[0].Code[:1] // an OpRet stands in the room behind
	refused(t, m, api.ErrType)
	m = with(prog(back()), api.Func{Ret: number, Code: code(api.OpAdd, api.OpRet)})
	m.Funcs = m.Funcs[:1]
	comes(t, m, "4 0>1, 4 1>0")
}

func TestTheSameAgain(t *testing.T) {
	var first []string
	for _, m := range samples() {
		first = append(first, said(Compile(m)))
	}
	for range 3 { // whatever became of the answers ahead, and whatever was asked between
		for n, m := range samples() {
			got, e := Compile(m)
			if said(got, e) != first[n] {
				t.Errorf("%s, not %s; %+v", said(got, e), first[n], m)
			}
			wreck(got)
			if got := said(Compile(m)); got != first[n] {
				t.Errorf("%s, not %s, once the first answer was written over; %+v", got, first[n], m)
			}
		}
	}
}

func TestAnswersAreApart(t *testing.T) {
	for _, m := range samples() {
		m = again(m, 2)
		one, e := Compile(m)
		two, _ := Compile(m)
		before := said(one, e)
		wreck(two)
		if got := said(one, e); got != before {
			t.Errorf("two answers share memory: %s, not %s; %+v", got, before, m)
		}
		wreckModule(m)
		if got := said(one, e); got != before {
			t.Errorf("the answer is what was handed in: %s, not %s", got, before)
		}
	}
}

// No two lists of one answer share memory, their spare room included.
func TestListsOfOneAnswerAreApart(t *testing.T) {
	for _, m := range samples() {
		got, _ := Compile(m)
		for f := range got {
			var kept [][]Ins
			for _, list := range got {
				kept = append(kept, slices.Clone(list))
			}
			scribble(got[f], Ins{9, 9, 9, 9, 9, 9})
			for other := range got {
				if other != f && !slices.Equal(got[other], kept[other]) {
					t.Fatalf("what stands in function %d's list stands in that of %d; %+v", f, other, m)
				}
			}
		}
	}
}

func TestNilAndEmptyLists(t *testing.T) {
	full := api.Module{Recs: [][]api.Type{}, Imports: []api.Import{}, Ints: []uint64{0}, Texts: []string{}}
	full.Funcs = []api.Func{{Args: []api.Type{}, Ret: number, Locals: []api.Type{}, Code: back()}}
	none := api.Module{Funcs: []api.Func{{Ret: number, Code: back()}}, Ints: []uint64{0}}
	for _, m := range []api.Module{full, none} {
		comes(t, m, "0 0>1, 0 1>0")
		has(t, m, 0, 8)
		has(t, m, 1, 0)
	}
	refused(t, api.Module{Funcs: []api.Func{}}, api.ErrForm)
	has(t, api.Module{Funcs: []api.Func{}}, 0, 0)
	full.Funcs[0].Code = []api.Instr{}
	refused(t, full, api.ErrForm)
	has(t, full, 0, 8)
}
