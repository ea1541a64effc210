package judge

import (
	"math"
	"slices"
	"strings"
	"testing"

	"chrysalis/api"
	"chrysalis/verify"
)

func TestMaxCode(t *testing.T) {
	seen := many(api.MaxCode, api.Shape{Seen: true})
	var chain []api.Instr // each goes on to the next one, the last one to itself
	for n := range api.MaxCode {
		chain = append(chain, in(api.OpJump, min(n+1, api.MaxCode-1)))
	}
	m := prog(chain)
	answers(t, true, m, [][]api.Shape{seen})
	answers(t, false, m, [][]api.Shape{seen[1:]})
	answers(t, false, m, [][]api.Shape{append(slices.Clone(seen), api.Shape{})})
	for n := range api.MaxCode {
		for _, spoilt := range []string{"-", "I", "X", "- Q Q Q Q Q Q Q Q Q"} {
			list := slices.Clone(seen)
			list[n] = shapes(spoilt)[0]
			answers(t, false, m, [][]api.Shape{list})
		}
	}
	m.Funcs[0].Code[0].A = api.MaxCode - 1 // nobody comes to those between
	right(t, m, strings.Repeat(", -", api.MaxCode-2)+", ")
}

func TestMaxFuncs(t *testing.T) {
	for _, length := range []int{2, 5, api.MaxStack + 1} {
		m, lines := maker(api.MaxFuncs, length)
		right(t, m, lines...)
		for n := range api.MaxFuncs {
			maps := all(lines)
			maps[n][length-1].Stack[length-2] = text // what is returned
			answers(t, false, m, maps)
			maps = all(lines)
			maps[n][length-1].Seen = false
			answers(t, false, m, maps)
			spoilt := again(m, 0)
			spoilt.Funcs[n].Code[length-2] = in(api.OpText)
			answers(t, false, spoilt, all(lines))
		}
	}
}

func TestAllAtTheirMost(t *testing.T) {
	body := code(many(6, in(api.OpNull)))
	for len(body) < api.MaxCode-9 {
		body = append(body, in(api.OpSwap))
	}
	body = code(body, api.OpPop, api.OpPop, api.OpText, api.OpInt, perhaps(6), api.OpPop, back())
	m := api.Module{Ints: make([]uint64, api.MaxConsts), Texts: many(api.MaxConsts, strings.Repeat("x", api.MaxText))}
	m.Recs = many(api.MaxRecs, many(api.MaxFields, number))
	m.Imports = many(api.MaxImports, api.Import{Args: many(api.MaxArgs, number), Ret: number})
	m.Funcs = many(api.MaxFuncs, api.Func{Ret: number, Locals: many(api.MaxLocals, number), Code: body})
	maps, _, _, e := verify.Check(m)
	if e != api.OK {
		t.Fatal(e)
	}
	answers(t, true, m, maps)
	for _, pc := range []int{6, api.MaxCode - 1} {
		spoilt := copied(maps, 0)
		spoilt[api.MaxFuncs-1][pc].Stack[0] = number
		answers(t, false, m, spoilt)
	}
}

func TestOneInstruction(t *testing.T) {
	for op := range api.Ops {
		alone, second := prog(in(op)), with(prog(back()), api.Func{Ret: any0, Locals: []api.Type{number}, Code: code(in(op))})
		for _, line := range []string{"", "-", "I", "B", "I I", "X", "-I"} {
			answers(t, op == api.OpJump && line == "", alone, all([]string{line}))
			answers(t, op == api.OpJump && line == "", second, all([]string{", I", line}))
		}
		answers(t, false, alone, [][]api.Shape{nil})
		answers(t, false, alone, [][]api.Shape{many(2, api.Shape{Seen: true})})
	}
}

// strange: types that no module can name.
func strange() []api.Type {
	out := []api.Type{{}, {Kind: -1}, {Kind: 9}, odd, {Kind: math.MaxInt, N: math.MaxInt}, {Kind: math.MinInt, N: math.MinInt}, {Kind: 256 + api.Int}, {Kind: 256 + api.None}, {N: 1}}
	for k := api.Int; k <= api.None; k++ {
		for _, n := range []int{math.MinInt, -1, 8, 255, 256, math.MaxInt} {
			out = append(out, api.Type{Kind: k, N: n})
		}
	}
	return out
}

// Types that no module can name may stand where nobody asks, and are as good as each other's words say where somebody does.
func TestStrangeTypes(t *testing.T) {
	taken := 0
	for _, x := range strange() {
		seen := func(stack ...api.Type) api.Shape { return api.Shape{Seen: true, Stack: stack} }
		answers(t, true, prog(back(), api.OpPop), [][]api.Shape{{seen(), seen(number), {Stack: many(3, x)}}})
		island := prog(back(), api.OpDup, api.OpPop, in(api.OpJump, 2))
		answers(t, true, island, [][]api.Shape{{seen(), seen(number), seen(x), seen(x, x), seen(x)}})
		answers(t, true, island, [][]api.Shape{{seen(), seen(number), seen(null, x), seen(null, x, x), seen(null, x)}})
		answers(t, false, island, [][]api.Shape{{seen(), seen(number), seen(x), seen(x), seen(x)}})
		answers(t, false, island, [][]api.Shape{{seen(), seen(number), seen(number), seen(x, number), seen(x)}}) // x comes back to what it is no Sub of
		for op, put := range map[int]api.Type{api.OpInt: number, api.OpText: text, api.OpNull: null} {
			want := stands(put, x)
			answers(t, want, prog(op, back()), [][]api.Shape{{seen(), seen(x), seen(x, number)}})
			answers(t, want, prog(op, in(api.OpJump, 2), in(api.OpJump, 2)), [][]api.Shape{{seen(), seen(put), seen(x)}})
			answers(t, false, prog(op, in(api.OpJump, 0)), [][]api.Shape{{seen(x), seen(x, put)}})
			if want {
				taken++
			}
		}
		used := prog(api.OpInt, api.OpRet)
		answers(t, false, used, [][]api.Shape{{seen(), seen(x)}})
	}
	if taken < 20 {
		t.Errorf("too few are taken: %d", taken)
	}
}
