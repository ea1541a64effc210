package state

import (
	"slices"
	"testing"

	"chrysalis/api"
	"chrysalis/verify"
)

// begins: that m begins with that quota, as the chapter says.
func begins(t *testing.T, m api.Module, quota, locals int) api.State {
	t.Helper()
	s, e := Begin(m, quota)
	if e != api.OK {
		t.Fatalf("Begin with %d: %d; %+v", quota, e, m)
	}
	want := api.State{Frames: []api.Frame{{Locals: make([]uint64, locals)}}, Quota: quota}
	if shown(s) != shown(want) {
		t.Fatalf("Begin with %d: %s, not %s", quota, shown(s), shown(want))
	}
	return s
}

// refused: that m does not begin with that quota, and nothing stands beside.
func refused(t *testing.T, m api.Module, quota int) {
	t.Helper()
	s, e := Begin(m, quota)
	if e != api.ErrArg || shown(s) != shown(api.State{}) {
		t.Fatalf("Begin with %d: %d, %s; %+v", quota, e, shown(s), m)
	}
}

func TestTheChaptersExample(t *testing.T) {
	s := begins(t, prog(back()), 0, 0)
	if len(s.Frames) != 1 {
		t.Error(s)
	}
}

func TestBeginsQuota(t *testing.T) {
	m := world()
	for _, quota := range []int{0, 1, 2, 15, 16, 255, 256, 1000, 1<<15 + 1, api.MaxQuota - 1, api.MaxQuota} {
		begins(t, m, quota, 5)
	}
	for _, quota := range append(strangeNumbers(), api.MaxQuota+1, api.MaxQuota+2) {
		if quota < 0 || quota > api.MaxQuota {
			refused(t, m, quota)
		}
	}
}

// As many as function 0 has, whatever they are, and whatever other functions have.
func TestBeginsLocals(t *testing.T) {
	for count := range api.MaxLocals + 1 {
		for _, x := range []api.Type{number, text, list, rec(0), rec(3), any0} {
			m := bare(api.Func{Ret: number, Locals: many(count, x), Code: back()}, api.Func{Ret: text, Args: many(3, han(1)), Locals: many(api.MaxLocals-3, x), Code: code(api.OpText, api.OpRet)})
			s := begins(t, m, 50, count)
			says(t, true, m, checked(t, m), s)
		}
	}
	m := bare(api.Func{Ret: number, Locals: []api.Type{any0, number, rec(2)}, Code: back()}, api.Func{Ret: number, Code: back()})
	begins(t, m, 50, 3)
	slices.Reverse(m.Funcs)
	begins(t, m, 50, 0)
}

// Where it begins has nothing to do with where it goes on, or whether it can.
func TestBeginsAnywhere(t *testing.T) {
	for _, m := range []api.Module{world(), prog(in(api.OpJump, 0)), prog(in(api.OpJump, 2), api.OpPop, back()), prog(in(api.OpCall, 0), api.OpRet)} {
		s := begins(t, m, 9, len(m.Funcs[0].Locals))
		says(t, true, m, checked(t, m), s)
	}
	for _, m := range []api.Module{prog(api.OpPop), prog(api.OpInt), prog(api.OpText, api.OpRet), prog(api.OpInt, in(api.OpJump, 0))} {
		if _, _, _, e := verify.Check(m); e != api.ErrType {
			t.Fatalf("Check: %d", e)
		}
		begins(t, m, 9, 0) // the chapter asks no more than Main
	}
}

func TestWhatCanNotBegin(t *testing.T) {
	wrong := []api.Module{
		{}, {Funcs: []api.Func{}}, {Funcs: []api.Func{{}}}, bare(),
		bare(api.Func{Ret: number}), prog(in(api.OpJump, 1)), prog(in(api.OpCall, 1)), prog(in(api.OpInt, 2), api.OpRet), prog(api.Ops),
		bare(api.Func{Ret: number, Args: []api.Type{number}, Code: back()}),
		bare(api.Func{Ret: number, Args: []api.Type{han(0)}, Code: back()}),
		bare(api.Func{Ret: number, Locals: []api.Type{han(0)}, Code: back()}),
		bare(api.Func{Ret: number, Locals: []api.Type{none}, Code: back()}),
		bare(api.Func{Ret: number, Locals: many(api.MaxLocals+1, number), Code: back()}),
		bare(many(api.MaxFuncs+1, api.Func{Ret: number, Code: back()})...),
		bare(api.Func{Ret: text, Code: back()}, api.Func{Ret: number, Code: back()}),
	}
	for _, x := range []api.Type{text, list, rec(0), han(0), null, any0, none, {}, {Kind: api.Int, N: 1}} {
		wrong = append(wrong, bare(api.Func{Ret: x, Code: back()}))
	}
	for _, m := range wrong {
		for _, quota := range []int{-1, 0, 50, api.MaxQuota, api.MaxQuota + 1} {
			refused(t, m, quota)
		}
	}
}

func TestBeginsStandAlone(t *testing.T) {
	m := world()
	a, b := begins(t, m, 50, 5), begins(t, m, 50, 5)
	spoil(a)
	if shown(b) != shown(begins(t, m, 50, 5)) {
		t.Error("an answer was changed by another one")
	}
	if len(m.Funcs[0].Locals) != 5 || m.Funcs[0].Locals[0] != number {
		t.Error("the module was changed")
	}
}
