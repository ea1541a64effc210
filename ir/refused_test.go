package ir

import (
	"testing"

	"chrysalis/api"
	"chrysalis/verify"
)

func TestWhatDoesNotFit(t *testing.T) {
	refused(t, api.Module{}, api.ErrForm)
	refused(t, bare(), api.ErrForm)
	refused(t, prog(), api.ErrForm)
	refused(t, prog(many(api.MaxCode+1, in(api.OpJump))), api.ErrForm)
	refused(t, prog(in(-1)), api.ErrForm)
	refused(t, prog(in(api.Ops)), api.ErrForm)
	refused(t, prog(back(), in(api.OpRet, 1)), api.ErrForm)
	refused(t, bare(many(api.MaxFuncs+1, api.Func{Ret: number, Code: back()})...), api.ErrForm)
	refused(t, with(prog(back()), api.Func{Args: many(api.MaxArgs+1, number), Ret: number, Code: back()}), api.ErrForm)
	refused(t, with(prog(back()), api.Func{Args: many(4, number), Ret: number, Locals: many(5, number), Code: back()}), api.ErrForm)
	refused(t, with(prog(back()), api.Func{Ret: null, Code: back()}), api.ErrForm)
}

func TestWhatDoesNotHangTogether(t *testing.T) {
	refused(t, prog(in(api.OpGet, 4), api.OpRet), api.ErrArg)
	refused(t, prog(back(), in(api.OpCall, 1)), api.ErrArg) // also of one that is not Seen
	refused(t, prog(back(), in(api.OpJump, 3)), api.ErrArg)
	refused(t, with(prog(back()), api.Func{Ret: number, Locals: is(han(0)), Code: back()}), api.ErrArg)
	m := prog(back())
	m.Imports = append(m.Imports[:7:7], api.Import{Ret: text})
	refused(t, m, api.ErrArg)
}

func TestWhatIsNoMain(t *testing.T) {
	refused(t, bare(api.Func{Args: is(number), Ret: number, Code: back()}), api.ErrArg)
	refused(t, bare(api.Func{Ret: text, Code: code(api.OpText, api.OpRet)}), api.ErrArg)
	refused(t, bare(api.Func{Ret: text, Code: code(api.OpAdd, api.OpRet)}), api.ErrArg) // ahead of its types
}

func TestWhatHasNoTypes(t *testing.T) {
	for _, m := range []api.Module{
		prog(api.OpRet), prog(api.OpInt), prog(api.OpAdd, api.OpRet), prog(api.OpText, api.OpRet), prog(api.OpInt, in(api.OpJump, 0)),
		prog(perhaps(4), back(), api.OpPop, back()), prog(many(api.MaxStack+1, in(api.OpInt)), api.OpRet), prog(in(api.OpZero, 0), api.OpRet),
		with(prog(back()), api.Func{Ret: number, Code: code(api.OpAdd, api.OpRet)}),
		with(with(prog(back()), api.Func{Ret: number, Code: back()}), api.Func{Ret: text, Code: back()}), // nobody calls it
	} {
		refused(t, m, api.ErrType)
	}
}

// Whatever is wrong, the error is chapter 9's.
func TestErrorsAreThoseOfCheck(t *testing.T) {
	got := map[api.Errno]int{}
	for _, m := range samples() {
		_, _, _, want := verify.Check(m)
		got[want]++
		if _, e := Compile(m); e != want {
			t.Errorf("%d, not %d; %+v", e, want, m)
		}
	}
	if got[api.OK] < 7 || got[api.ErrType] < 3 || got[api.ErrArg] < 2 || got[api.ErrForm] < 1 {
		t.Errorf("too little of one: %v", got)
	}
}
