package run

import (
	"math/rand/v2"
	"slices"
	"testing"

	"chrysalis/api"
	"chrysalis/flow"
	"chrysalis/state"
	"chrysalis/step"
	"chrysalis/verify"
)

// one: any of list.
func one[T any](r *rand.Rand, list ...T) T { return list[r.IntN(len(list))] }

// some: an instruction by chance, or a few, which may not fit where they are put; back is where the stack was the same.
func some(r *rand.Rand, back int) []api.Instr {
	switch r.IntN(16) {
	case 0, 1, 2:
		return code(n(one(r, ints()...)))
	case 3, 4, 5, 6:
		return code(in(api.OpHost, r.IntN(6)))
	case 7:
		return code(in(one(r, api.OpGet, api.OpSet), r.IntN(4)))
	case 8:
		return code(in(api.OpHost, askNumber), in(api.OpZero, back))
	case 9:
		return code(one(r, n(0), n(1), n(2)), in(api.OpZero, back))
	case 10:
		return code(one(r, code(n(2), in(api.OpCall, 1)), code(in(api.OpHost, askNumber), in(api.OpZero, back), in(api.OpCall, 0))))
	case 11:
		return code(one(r, n(2), n(2), n(2), n(65)), api.OpInts, in(api.OpSet, 2), in(api.OpGet, 2), api.OpLen)
	case 12:
		return code(one(r, code(in(api.OpGet, 2), api.OpLen), code(api.OpText), code(in(api.OpHost, askNumber), api.OpDiv)))
	case 13:
		return code(in(api.OpHost, askHan), api.OpDup, one(r, in(api.OpClose), in(api.OpPop), in(api.OpPop), in(api.OpPop)), in(api.OpHost, tellHan))
	}
	return code(one(r, api.OpAdd, api.OpSub, api.OpDiv, api.OpLt, api.OpDup, api.OpSwap, api.OpPop, api.OpPop, api.OpInts, api.OpLen, api.OpClose))
}

// grown: the code of function f of m: one instruction that fits behind the other, then what brings it to its result.
func grown(r *rand.Rand, m api.Module, f int) []api.Instr {
	m.Funcs = slices.Clone(m.Funcs)
	var out []api.Instr
	var stack []api.Type
	stacks := [][]api.Type{nil}
	for range 4 + r.IntN(20) {
		back := r.IntN(len(stacks))
		for !slices.Equal(stacks[back], stack) {
			back = (back + 1) % len(stacks) // the last one is
		}
		for _, i := range some(r, back) {
			m.Funcs[f].Code = append(slices.Clone(out), i, n(0)) // what it leads to has to be there
			after, next, e := flow.Flow(m, f, len(out), stack)
			if e == api.OK && len(next) > 0 && len(after) < api.MaxStack && len(out) < api.MaxCode-3 {
				out, stack, stacks = append(out, i), after, append(stacks, after)
			}
		}
	}
	return append(out, n(7), in(api.OpRet))
}

// made: a program of two functions, which may call themselves and each other, and go on for ever.
func made(r *rand.Rand) api.Module {
	for {
		m := prog(n(0), api.OpRet)
		m.Funcs = append(m.Funcs, api.Func{Args: []api.Type{number}, Ret: number, Locals: []api.Type{text, list}, Code: code(n(0), api.OpRet)})
		m.Funcs[0].Code, m.Funcs[1].Code = grown(r, m, 0), grown(r, m, 1)
		if _, _, _, e := verify.Check(m); e == api.OK {
			return m
		}
	}
}

// trace: what a machine does, instruction by instruction, with as many answers as it wants.
type trace struct {
	told   [][]api.Event // of each instruction
	wants  []bool        // likewise
	states []api.State   // ahead of each, and behind the last one
}

// traced: what x does, for up to so many instructions.
func traced(x *step.Machine, most int, answers []uint64) trace {
	out, used := trace{states: []api.State{x.State()}}, 0
	for range most {
		_, wants := x.Want()
		told, did := x.Next(answers[used])
		if !did {
			break
		}
		if wants {
			used++
		}
		out.told, out.wants, out.states = append(out.told, told), append(out.wants, wants), append(out.states, x.State())
	}
	return out
}

// part: what becomes of instruction at and those behind it, with so much fuel and so many answers: where it stands, how many answers were used, and what was told.
func (c trace) part(at, fuel, answers int) (to, used int, told []api.Event) {
	for to = at; to < len(c.told) && to-at < fuel; to++ {
		if c.wants[to] {
			if used == answers {
				break
			}
			used++
		}
		told = append(told, c.told[to]...)
	}
	return to, used, told
}

// With any fuel and any number of answers it comes just as far as instruction by instruction, and to the same.
func TestMadePrograms(t *testing.T) {
	const most = 120
	r := rand.New(rand.NewPCG(16, 1))
	ends, held := map[int]int{}, 0
	for range 240 {
		m, quota := made(r), one(r, 0, 50, 3000)
		answers := make([]uint64, most+1)
		for k := range answers {
			answers[k] = one(r, 0, 0, 1, 2, 7, top, r.Uint64())
		}
		c := traced(start(t, m, quota), most, answers)
		ends[c.states[len(c.told)].End]++
		for range 12 {
			fuel, many := r.IntN(most+1), one(r, 0, 1, r.IntN(6), r.IntN(most), most)
			x := start(t, m, quota)
			to, used, told := c.part(0, fuel, many)
			runs(t, x, fuel, answers[:many], to, used, told...)
			is(t, x, c.states[to])
			if to < min(fuel, len(c.told)) {
				held++
			}
		}
		inPieces(t, r, start(t, m, quota), c, answers)
	}
	for end := api.Going; end <= api.TrapClosed; end++ {
		if ends[end] < 5 {
			t.Errorf("%d programs came to %d", ends[end], end)
		}
	}
	if held < 600 {
		t.Errorf("%d were held by their answers", held)
	}
}

// inPieces: that x, run piece by piece, by some fuel and some answers at a time, comes to the same as in one go.
func inPieces(t *testing.T, r *rand.Rand, x *step.Machine, c trace, answers []uint64) {
	t.Helper()
	at, all := 0, 0
	for at < len(c.told) {
		fuel, many := min(r.IntN(9), len(c.told)-at), r.IntN(4)
		to, used, told := c.part(at, fuel, many)
		runs(t, x, fuel, answers[all:all+min(many, len(answers)-all)], to-at, used, told...)
		at, all = to, all+used
		if got := x.State(); !state.Same(got, c.states[at]) {
			t.Fatalf("behind %d: %+v; not %+v", at, got, c.states[at])
		}
	}
}

// Paused anywhere, and gone on with by another machine, it comes to the same.
func TestPausedAnywhere(t *testing.T) {
	r := rand.New(rand.NewPCG(16, 2))
	for range 60 {
		m := made(r)
		answers := upFrom(r.Uint64N(3), 101)
		c := traced(start(t, m, 500), 100, answers)
		all := 0
		for at, s := range c.states {
			x := load(t, m, s)
			to, used, told := c.part(at, len(c.told)-at, 100-all)
			runs(t, x, len(c.told)-at, answers[all:100], to-at, used, told...)
			is(t, x, c.states[to])
			if at < len(c.told) && c.wants[at] {
				all++
			}
		}
	}
}
