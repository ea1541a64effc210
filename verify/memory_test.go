package verify

import (
	"slices"
	"testing"

	"chrysalis/api"
)

// samples: programs with Shapes of all sorts, and some without.
func samples() []api.Module {
	out := []api.Module{
		{},
		prog(back()),
		prog(in(api.OpJump, 0)),
		prog(api.OpNull, api.OpText, api.OpSwap, api.OpPop, api.OpInt, api.OpInts, perhaps(2), api.OpSame, api.OpRet),
		prog(api.OpInt, api.OpText, perhaps(4), api.OpPop, back(), api.OpAdd), // the two behind OpZero have the same
		prog(api.OpInt, api.OpText, perhaps(2), perhaps(2), api.OpPop, api.OpRet),
		prog(fork(code(api.OpPop, api.OpPop, back()), code(api.OpInt, api.OpNull), code(api.OpText, api.OpText), code(api.OpNull, api.OpText))),
		prog(in(api.OpGet, 3), api.OpDup, in(api.OpField, 0, 2), in(api.OpPut, 0, 2), in(api.OpHost, 2), api.OpClose, back()),
		prog(api.OpInt, in(api.OpJump, 0)),
		prog(api.OpText, api.OpRet),
		prog(in(api.OpGet, 9), api.OpRet),
	}
	second := api.Func{Args: []api.Type{text, number}, Ret: any0, Locals: []api.Type{list}, Code: code(in(api.OpGet, 0), in(api.OpGet, 1), in(api.OpZero, 4), api.OpRet, api.OpPop, in(api.OpGet, 2), api.OpRet)}
	out = append(out, with(with(prog(api.OpText, api.OpInt, in(api.OpCall, 1), api.OpPop, back()), second), second))
	out = append(out, with(with(prog(back()), second), api.Func{Ret: number, Code: code(api.OpAdd, api.OpRet)}))
	noMain := prog(back())
	noMain.Funcs[0].Ret = any0
	return append(out, noMain)
}

func TestSamples(t *testing.T) {
	got := map[api.Errno]int{}
	for _, m := range samples() {
		_, _, _, e := Check(m)
		got[e]++
	}
	if got[api.OK] != 8 || got[api.ErrType] != 3 || got[api.ErrArg] != 2 || got[api.ErrForm] != 1 {
		t.Errorf("the tests of memory tell too little: %v", got)
	}
}

// scribble: writes over a list, and the room behind it.
func scribble[T any](list []T, x T) {
	list = list[:cap(list)]
	for k := range list {
		list[k] = x
	}
}

// wreck: writes over all that was answered, the lists within lists first.
func wreck(maps [][]api.Shape) {
	for _, shapes := range maps {
		for _, s := range shapes {
			scribble(s.Stack, odd)
		}
		scribble(shapes, api.Shape{Seen: true, Stack: many(1, odd)})
	}
	scribble(maps, nil)
}

func TestModulesThatAreHandedInStay(t *testing.T) {
	for _, m := range samples() {
		m = again(m, 3)
		before := dump(m)
		for range 2 {
			maps, _, _, _ := Check(m)
			wreck(maps)
			if dump(m) != before {
				t.Errorf("changed: %+v", m)
			}
		}
	}
}

func TestSpareRoomIsNotAsked(t *testing.T) {
	for _, m := range samples() {
		if got, want := said(Check(again(m, 5))), said(Check(m)); got != want {
			t.Errorf("%s, not %s; %+v", got, want, m)
		}
	}
	m := prog(back())
	m.Funcs[0].Code = m.Funcs[0].Code[:1] // an OpRet stands in the room behind
	fails(t, m, 0)
	m = with(prog(back()), api.Func{Ret: number, Code: code(api.OpAdd, api.OpRet)})
	m.Funcs = m.Funcs[:1]
	comes(t, m, ", I")
}

func TestTheSameAgain(t *testing.T) {
	var first []string
	for _, m := range samples() {
		first = append(first, said(Check(m)))
	}
	for range 3 { // whatever became of the answers ahead, and whatever was asked between
		for n, m := range samples() {
			maps, f, pc, e := Check(m)
			if got := said(maps, f, pc, e); got != first[n] {
				t.Errorf("%s, not %s; %+v", got, first[n], m)
			}
			wreck(maps)
			if got := said(Check(m)); got != first[n] {
				t.Errorf("%s, not %s, once the first answer was written over; %+v", got, first[n], m)
			}
		}
	}
}

func TestAnswersAreApart(t *testing.T) {
	for _, m := range samples() {
		one, f, pc, e := Check(m)
		two, _, _, _ := Check(m)
		before := said(one, f, pc, e)
		wreck(two)
		if got := said(one, f, pc, e); got != before {
			t.Errorf("two answers share memory: %s, not %s; %+v", got, before, m)
		}
		for n := range m.Funcs { // what was handed in is changed later
			scribble(m.Funcs[n].Code, in(api.OpRet))
			scribble(m.Funcs[n].Args, odd)
			scribble(m.Funcs[n].Locals, odd)
		}
		for n := range m.Imports {
			scribble(m.Imports[n].Args, odd)
		}
		for n := range m.Recs {
			scribble(m.Recs[n], odd)
		}
		if got := said(one, f, pc, e); got != before {
			t.Errorf("the answer is what was handed in: %s, not %s", got, before)
		}
	}
}

// copied: maps in memory of their own.
func copied(maps [][]api.Shape) [][]api.Shape {
	var out [][]api.Shape
	for _, shapes := range maps {
		var list []api.Shape
		for _, s := range shapes {
			list = append(list, api.Shape{Seen: s.Seen, Stack: slices.Clone(s.Stack)})
		}
		out = append(out, list)
	}
	return out
}

// No two lists of one answer share memory, their spare room included.
func TestListsOfOneAnswerAreApart(t *testing.T) {
	for _, m := range samples() {
		maps, _, _, _ := Check(m)
		for f := range maps {
			for pc := range maps[f] {
				maps, _, _, _ := Check(m)
				want := copied(maps)
				scribble(maps[f][pc].Stack, odd)
				scribble(want[f][pc].Stack, odd)
				if got, then := said(maps, 0, 0, 0), said(want, 0, 0, 0); got != then {
					t.Fatalf("stack %d of function %d is another's, too: %s, not %s", pc, f, got, then)
				}
			}
			maps, _, _, _ := Check(m)
			want := copied(maps)
			scribble(maps[f], api.Shape{Seen: true, Stack: many(1, odd)})
			for pc := range want[f] {
				want[f][pc] = api.Shape{Seen: true, Stack: many(1, odd)}
			}
			if got, then := said(maps, 0, 0, 0), said(want, 0, 0, 0); got != then {
				t.Fatalf("function %d's list is another's, too: %s, not %s", f, got, then)
			}
		}
	}
}

func TestNilAndEmptyLists(t *testing.T) {
	full := api.Module{Recs: [][]api.Type{}, Imports: []api.Import{}, Ints: []uint64{0}, Texts: []string{}}
	full.Funcs = []api.Func{{Args: []api.Type{}, Ret: number, Locals: []api.Type{}, Code: back()}}
	comes(t, full, ", I")
	comes(t, api.Module{Funcs: []api.Func{{Ret: number, Code: back()}}, Ints: []uint64{0}}, ", I")
	refused(t, api.Module{Funcs: []api.Func{}}, api.ErrForm)
	full.Funcs[0].Code = []api.Instr{}
	refused(t, full, api.ErrForm)
}
