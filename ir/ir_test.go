package ir

import (
	"strconv"
	"strings"
	"testing"

	"chrysalis/api"
)

func TestExamples(t *testing.T) { // the chapter's, then the document's
	got := seen(t, prog(api.OpInt, in(api.OpInt, 1), api.OpAdd, api.OpRet))
	if got[2].At != got[0].At || got[2] != (Ins{Op: api.OpAdd, At: 4, In: 2, Out: 1}) {
		t.Errorf("%+v", got)
	}
	refused(t, prog(api.OpInt, in(api.OpJump, 0)), api.ErrType)
	comes(t, prog(api.OpInt, api.OpRet), "4 0>1, 4 1>0")
	comes(t, prog(in(api.OpCall, 0), api.OpRet), "4 0>1, 4 1>0")
}

// All of one, field by field.
func TestEachField(t *testing.T) {
	got := seen(t, prog(
		in(api.OpInt, 5), in(api.OpGet, 3), in(api.OpField, 0, 2), in(api.OpSet, 1), in(api.OpNew, 1), in(api.OpPop),
		in(api.OpGet, 3), in(api.OpText, 3), in(api.OpPut, 0, 2), in(api.OpZero, 11), in(api.OpJump, 11), in(api.OpHost, 4), in(api.OpRet),
	))
	want := []Ins{
		{api.OpInt, 5, 0, 4, 0, 1}, {api.OpGet, 3, 0, 5, 0, 1}, {api.OpField, 0, 2, 5, 1, 1}, {api.OpSet, 1, 0, 5, 1, 0}, {api.OpNew, 1, 0, 5, 0, 1}, {api.OpPop, 0, 0, 5, 1, 0},
		{api.OpGet, 3, 0, 5, 0, 1}, {api.OpText, 3, 0, 6, 0, 1}, {api.OpPut, 0, 2, 5, 2, 0}, {api.OpZero, 11, 0, 4, 1, 0}, {api.OpJump, 11, 0, 4, 0, 0}, {api.OpHost, 4, 0, 4, 0, 1}, {api.OpRet, 0, 0, 4, 1, 0},
	}
	for pc := range want {
		if got[pc] != want[pc] {
			t.Errorf("%d: %+v, not %+v", pc, got[pc], want[pc])
		}
	}
}

// The first of what it takes is the lowest; what takes nothing stands where it would.
func TestFirstOfWhatItTakes(t *testing.T) {
	comes(t, prog(api.OpInt, api.OpInt, api.OpInt, api.OpAdd, api.OpAdd, api.OpRet), "4 0>1, 5 0>1, 6 0>1, 5 2>1, 4 2>1, 4 1>0")
	comes(t, prog(api.OpText, api.OpNull, api.OpInt, api.OpInt, api.OpStore, api.OpLenB, api.OpRet), "4 0>1, 5 0>1, 6 0>1, 7 0>1, 5 3>0, 4 1>1, 4 1>0")
	comes(t, prog(in(api.OpJump, 1), api.OpText, in(api.OpJump, 3), api.OpInt, in(api.OpJump, 5), api.OpRet), "4 0>0, 4 0>1, 5 0>0, 5 0>1, 6 0>0, 5 1>0")
	comes(t, prog(api.OpInt, api.OpInt, api.OpInt, api.OpRet), "4 0>1, 5 0>1, 6 0>1, 6 1>0") // of a result alone
}

// A full stack is taken from as ever; what takes nothing there would take it behind the last register.
func TestFullStack(t *testing.T) {
	full := many(api.MaxStack, in(api.OpInt))
	puts := "4 0>1, 5 0>1, 6 0>1, 7 0>1, 8 0>1, 9 0>1, 10 0>1, 11 0>1, "
	comes(t, prog(full, in(api.OpJump, api.MaxStack)), puts+"12 0>0")
	comes(t, prog(full, api.OpRet), puts+"11 1>0")
	comes(t, prog(full, in(api.OpZero, api.MaxStack+1), api.OpRet), puts+"11 1>0, 10 1>0")
	comes(t, prog(full, api.OpSwap, api.OpTwist, api.OpAdd, api.OpDup, api.OpRet), puts+"10 2>2, 10 2>2, 10 2>1, 10 1>2, 11 1>0")
	refused(t, prog(full, api.OpInt, api.OpRet), api.ErrType)
	refused(t, prog(full, api.OpDup, api.OpRet), api.ErrType)
}

// All locals stand ahead of the stack, a function's arguments among them.
func TestBehindTheLocals(t *testing.T) {
	ats := []string{"0 0>1, 0 1>0", "1 0>1, 1 1>0", "2 0>1, 2 1>0", "3 0>1, 3 1>0", "4 0>1, 4 1>0", "5 0>1, 5 1>0", "6 0>1, 6 1>0", "7 0>1, 7 1>0", "8 0>1, 8 1>0"}
	for args := range api.MaxArgs + 1 {
		for locals := range api.MaxLocals - args + 1 {
			m := with(prog(back()), api.Func{Args: many(args, han(1)), Ret: number, Locals: many(locals, text), Code: back()})
			comes(t, m, ats[4], ats[args+locals])
			if args == 0 {
				m.Funcs[0].Locals = many(locals, text)
				comes(t, m, ats[locals], ats[locals])
			}
		}
	}
}

// Each function for itself, called or not, by itself too.
func TestEachFunction(t *testing.T) {
	m := prog(in(api.OpCall, 1), back())
	m = with(m, api.Func{Ret: text, Code: code(in(api.OpCall, 1), api.OpRet)})
	m = with(m, api.Func{Args: is(han(2), text), Ret: rec(1), Locals: is(list), Code: code(in(api.OpGet, 0), api.OpClose, api.OpNull, api.OpRet, api.OpNull)}) // nobody calls it
	m = with(m, api.Func{Ret: han(2), Code: code(in(api.OpJump, 0))})                                                                                          // nor this
	comes(t, m, "4 0>1, 5 0>1, 5 1>0", "0 0>1, 0 1>0", "3 0>1, 3 1>0, 3 0>1, 3 1>0, -", "0 0>0")
	m = prog(back())
	want := []string{"4 0>1, 4 1>0"}
	for n := 1; n < api.MaxFuncs; n++ {
		m, want = with(m, api.Func{Ret: number, Locals: many(n, number), Code: code(many(n, in(api.OpText)), back())}), append(want, "")
		for k := range n + 1 {
			want[n] += at(n+k, "0>1, ")
		}
		want[n] += at(2*n, "1>0")
	}
	comes(t, m, want...)
}

// at: a register, then the rest of a word.
func at(n int, rest string) string { return strconv.Itoa(n) + " " + rest }

func TestAsLongAsMayBe(t *testing.T) {
	body, want := []api.Instr{}, ""
	for len(body) < api.MaxCode-2 {
		body, want = code(body, api.OpText, api.OpPop), want+"4 0>1, 4 1>0, "
	}
	comes(t, prog(body, back()), want+"4 0>1, 4 1>0")
	comes(t, prog(in(api.OpJump, api.MaxCode-2), body[:api.MaxCode-3], back()), "4 0>0, "+strings.Repeat("-, ", api.MaxCode-3)+"4 0>1, 4 1>0")
	refused(t, prog(body, back(), api.OpRet), api.ErrForm)
}
