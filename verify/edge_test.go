package verify

import (
	"strings"
	"testing"

	"chrysalis/api"
)

func TestMaxStack(t *testing.T) {
	comes(t, prog(many(api.MaxStack, in(api.OpInt)), api.OpRet), ", I, I I, I I I, I I I I, I I I I I, I I I I I I, I I I I I I I, I I I I I I I I")
	fails(t, prog(many(api.MaxStack+1, in(api.OpInt)), api.OpRet), 0)
	comes(t, prog(many(api.MaxStack, in(api.OpInt)), api.OpPop, api.OpDup, in(api.OpJump, 8)),
		", I, I I, I I I, I I I I, I I I I I, I I I I I I, I I I I I I I, I I I I I I I I, I I I I I I I, I I I I I I I I")
}

func TestMaxStackAtAJoin(t *testing.T) {
	away := code(many(api.MaxStack, in(api.OpPop)), back())
	for _, x := range []struct {
		one, other int
		letter     string
	}{{api.OpInt, api.OpInt, "I"}, {api.OpInt, api.OpText, "X"}, {api.OpText, api.OpInt, "X"}, {api.OpText, api.OpNull, "B"}, {api.OpNull, api.OpText, "B"}} {
		one, other := many(api.MaxStack, in(x.one)), many(api.MaxStack, in(x.other))
		want := ""
		for n := api.MaxStack; n > 0; n-- {
			want += strings.Join(many(n, x.letter), " ") + ", "
		}
		last(t, prog(fork(away, one, other)), want+", I")
		fails(t, prog(fork(code(api.OpNull, api.OpPop, away), one, other)), 0) // one more behind it
		fails(t, prog(fork(code(in(api.OpGet, 0), api.OpPop, away), one, other)), 0)
		fails(t, prog(fork(code(api.OpDup, api.OpPop, away), one, other)), 0)
		fails(t, prog(fork(code(api.OpPop, away), code(one, in(x.one)), code(other, in(x.other)))), 0) // one more at it
		fails(t, prog(fork(away, one, code(other, in(x.other), api.OpPop))), 0)                        // one more ahead of it
		fails(t, prog(fork(away, code(one, in(x.one), api.OpPop), other)), 0)
	}
}

func TestMaxCode(t *testing.T) {
	m := prog(many((api.MaxCode-2)/2, in(api.OpNull)), many((api.MaxCode-2)/2, in(api.OpPop)), back())
	fails(t, m, 0) // too high
	m = prog(back())
	m.Funcs[0].Code = nil
	for range (api.MaxCode - 2) / 2 {
		m.Funcs[0].Code = code(m.Funcs[0].Code, api.OpText, api.OpPop)
	}
	m.Funcs[0].Code = code(m.Funcs[0].Code, back())
	comes(t, m, strings.Repeat(", B, ", (api.MaxCode-2)/2)+", I")
	m.Funcs[0].Code[api.MaxCode-1] = in(api.OpPop)
	fails(t, m, 0) // behind the last one
	m.Funcs[0].Code[api.MaxCode-1] = in(api.OpJump, api.MaxCode-1)
	comes(t, m, strings.Repeat(", B, ", (api.MaxCode-2)/2)+", I")
}

// Each instruction leads to the one ahead of it, so that what stands there is known last.
func TestMaxCodeFromTheBack(t *testing.T) {
	m := prog(api.OpText, in(api.OpJump, api.MaxCode-1))
	for n := 2; n < api.MaxCode; n++ {
		m.Funcs[0].Code = append(m.Funcs[0].Code, in(api.OpJump, n-1))
	}
	m.Funcs[0].Code[2], m.Funcs[0].Code[3] = in(api.OpLenB), in(api.OpRet)
	m.Funcs[0].Code[4] = in(api.OpJump, 2)
	comes(t, m, ", B, B, I"+strings.Repeat(", B", api.MaxCode-4))
	m.Funcs[0].Code[2] = in(api.OpLen)
	fails(t, m, 0)
	m.Funcs[0].Code[2], m.Funcs[0].Code[40] = in(api.OpLenB), in(api.OpDup)
	fails(t, m, 0) // it goes back to 41 with more
}

func TestMaxFuncs(t *testing.T) {
	m := prog(back())
	want := []string{", I"}
	for n := 1; n < api.MaxFuncs; n++ {
		m = with(m, api.Func{Ret: number, Locals: []api.Type{number}, Code: code(many(n%2, in(api.OpText)), back())})
		want = append(want, []string{", I", ", B, B I"}[n%2])
	}
	comes(t, m, want...)
	for n := range api.MaxFuncs {
		spoilt := again(m, 0)
		spoilt.Funcs[n].Code[0] = in(api.OpPop)
		fails(t, spoilt, n)
		spoilt.Funcs[n].Code = spoilt.Funcs[n].Code[:1]
		fails(t, spoilt, n)
	}
}

func TestAllAtTheirMost(t *testing.T) {
	body := code(many(6, in(api.OpNull)))
	for len(body) < api.MaxCode-9 {
		body = append(body, in(api.OpSwap))
	}
	body = code(body, api.OpPop, api.OpPop, api.OpText, api.OpInt, perhaps(6), api.OpPop, back())
	m := api.Module{Ints: make([]uint64, api.MaxConsts), Texts: many(api.MaxConsts, strings.Repeat("x", api.MaxText))}
	m.Recs = many(api.MaxRecs, many(api.MaxFields, number))
	m.Imports = many(api.MaxImports, api.Import{Args: many(api.MaxArgs, number), Ret: number})
	m.Funcs = many(api.MaxFuncs, api.Func{Ret: number, Locals: many(api.MaxLocals, number), Code: body})
	maps, _, _, e := Check(m)
	if e != api.OK || len(maps) != api.MaxFuncs {
		t.Fatalf("%d, %d functions", e, len(maps))
	}
	for _, shapes := range maps {
		if got := line(shapes[6]); len(shapes) != api.MaxCode || got != "N N N N B X" || line(shapes[api.MaxCode-1]) != "N N N N B I" {
			t.Errorf("%d: %s", len(shapes), lines(shapes))
		}
	}
}
