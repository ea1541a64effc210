package judge

import (
	"math/rand/v2"
	"slices"
	"testing"

	"chrysalis/api"
	"chrysalis/flow"
	"chrysalis/sane"
	"chrysalis/verify"
)

// holds: Right once more, by the chapter's words in another order: what has to be Seen is counted first, then asked.
func holds(m api.Module, maps [][]api.Shape) bool {
	if sane.Check(m) != api.OK || len(m.Funcs[0].Args) != 0 || m.Funcs[0].Ret.Kind != api.Int {
		return false
	}
	if len(maps) != len(m.Funcs) {
		return false
	}
	for f := len(maps) - 1; f >= 0; f-- {
		if len(maps[f]) != len(m.Funcs[f].Code) {
			return false
		}
		come := map[int][][]api.Type{0: {{}}} // what comes to each
		for pc := len(maps[f]) - 1; pc >= 0; pc-- {
			if len(maps[f][pc].Stack) > 8 {
				return false
			}
			if !maps[f][pc].Seen {
				continue
			}
			after, next, e := flow.Flow(m, f, pc, maps[f][pc].Stack)
			if e != api.OK {
				return false
			}
			for _, n := range next {
				come[n] = append(come[n], after)
			}
		}
		for pc, stacks := range come {
			for _, stack := range stacks {
				if !maps[f][pc].Seen || !standsAll(stack, maps[f][pc].Stack) {
					return false
				}
			}
		}
		if len(maps[f][0].Stack) > 0 {
			return false
		}
	}
	return true
}

// agrees: that Right says what holds; what it is.
func agrees(t *testing.T, m api.Module, maps [][]api.Shape) bool {
	t.Helper()
	want := holds(m, maps)
	answers(t, want, m, maps)
	return want
}

// least: that what Check answered of m is Below maps, of which it says no more that it is Seen.
func least(t *testing.T, m api.Module, checked, maps [][]api.Shape) bool {
	t.Helper()
	more := false
	for f, list := range maps {
		for pc, s := range list {
			if checked[f][pc].Seen && (!s.Seen || !Below(checked[f][pc].Stack, s.Stack)) {
				t.Fatalf("%s is not below %s; %+v", line(checked[f]), line(list), m)
			}
			more = more || s.Seen && !checked[f][pc].Seen
		}
	}
	return !more
}

// instructions: what shaken code is made of, beside jumps and OpRet.
func instructions() []api.Instr {
	out := code(api.OpInt, api.OpText, api.OpNull, api.OpNull, api.OpPop, api.OpDup, api.OpSwap, api.OpSwap, api.OpAdd, in(api.OpCall, 1), in(api.OpHost, 1), in(api.OpHost, 2),
		in(api.OpNew, 1), in(api.OpField, 0, 2), api.OpInts, api.OpLen, api.OpLenB, api.OpIsNull, api.OpSame, api.OpClose)
	for n := range 5 {
		out = append(out, in(api.OpGet, n), in(api.OpSet, n))
	}
	return out
}

// grown: code for function f of m that does, where its jumps are not gone; they lead, for the most part, to where there are as many on the stack.
func grown(r *rand.Rand, m api.Module, f, length int) []api.Instr {
	var out []api.Instr
	var heights []int
	var stack []api.Type
	put := func(i api.Instr, height int) {
		out, heights = append(out, i), append(heights, height)
	}
	trial, pool := again(m, 0), instructions()
	for len(out) < length-3 {
		roll := r.IntN(8)
		if roll == 0 && len(stack) < api.MaxStack {
			put(in(api.OpInt), len(stack))
			put(in(api.OpZero), len(stack)+1)
			continue
		}
		if roll == 1 && r.IntN(3) == 0 {
			put(in(api.OpJump), len(stack))
			continue
		}
		i := pool[r.IntN(len(pool))]
		trial.Funcs[f].Code = code(i, api.OpRet)
		if after, _, e := flow.Flow(trial, f, 0, stack); e == api.OK {
			put(i, len(stack))
			stack = after
		}
	}
	if len(stack) == api.MaxStack {
		put(in(api.OpPop), len(stack))
	}
	put(in(api.OpInt), min(len(stack), api.MaxStack-1))
	put(in(api.OpRet), min(len(stack), api.MaxStack-1)+1)
	for pc, i := range out {
		height := heights[pc]
		switch i.Op {
		case api.OpJump:
		case api.OpZero:
			height--
		default:
			continue
		}
		out[pc].A = r.IntN(len(out))
		for r.IntN(60) > 0 && heights[out[pc].A] != height {
			out[pc].A = r.IntN(len(out))
		}
	}
	return out
}

// shaken: maps with one thing changed.
func shaken(r *rand.Rand, maps [][]api.Shape) [][]api.Shape {
	out := copied(maps, 0)
	f := r.IntN(len(out))
	if len(out[f]) == 0 {
		return out
	}
	pc := r.IntN(len(out[f]))
	s := &out[f][pc]
	if len(s.Stack) > 0 && r.IntN(8) > 0 {
		k := r.IntN(len(s.Stack))
		s.Stack[k] = []api.Type{none, none, any0, any0, text, null, number, list, rec(1), odd}[r.IntN(10)]
		return out
	}
	switch r.IntN(7) {
	case 0:
		s.Seen = !s.Seen
	case 1:
		s.Stack = append(s.Stack, null)
	case 2:
		s.Stack = s.Stack[:max(len(s.Stack)-1, 0)]
	case 3:
		s.Stack = many(r.IntN(10), none)
	case 4:
		out[f] = slices.Delete(out[f], pc, pc+1)
	case 5:
		out[f] = append(out[f], api.Shape{})
	default:
		out = slices.Insert(out, f, out[f])
	}
	return out
}

func TestShaken(t *testing.T) {
	r := rand.New(rand.NewPCG(10, 31))
	checked, got, below := map[api.Errno]int{}, map[bool]int{}, 0
	for range 1200 {
		m := with(prog(back()), api.Func{Args: []api.Type{any0, list}, Ret: number, Locals: []api.Type{text, number, rec(0)}, Code: back()})
		m.Funcs[r.IntN(2)].Code = grown(r, m, 0, 4+r.IntN(10))
		m.Funcs[1].Code = grown(r, m, 1, 4+r.IntN(10))
		maps, _, _, e := verify.Check(m)
		checked[e]++
		if e != api.OK {
			continue
		}
		if !agrees(t, m, maps) {
			t.Fatal("what Check answers is not Right")
		}
		for range 6 {
			other := maps
			for range 1 + r.IntN(3) {
				other = shaken(r, other)
				is := agrees(t, m, other)
				got[is]++
				if is && least(t, m, maps, other) {
					below++
				}
				if !is && r.IntN(2) == 0 {
					break
				}
			}
		}
	}
	if checked[api.OK] < 400 || checked[api.ErrType] < 100 || got[true] < 1000 || got[false] < 1000 || below < 500 {
		t.Errorf("too little of one answer, the test tells little: %v %v %d", checked, got, below)
	}
}

// Each place in turn is made wider, and stays so where that is Right, until none can be any more.
func TestWidenedAsFarAsOneCan(t *testing.T) {
	wider := 0
	for _, m := range programs() {
		maps, _, _, _ := verify.Check(m)
		now := copied(maps, 0)
		for more := true; more; {
			more = false
			for f := range now {
				for pc := range now[f] {
					for k, was := range now[f][pc].Stack {
						for _, x := range []api.Type{none, any0} {
							if x == was || !stands(was, x) {
								continue
							}
							now[f][pc].Stack[k] = x
							if agrees(t, m, now) {
								wider, more = wider+1, true
								least(t, m, maps, now)
								break
							}
							now[f][pc].Stack[k] = was
						}
					}
				}
			}
		}
	}
	if wider < 10 {
		t.Errorf("too few could be made wider: %d", wider)
	}
}

// options: all Shapes with at most two of these types, Seen or not.
func options() []api.Shape {
	out := []api.Shape{{}}
	for _, stack := range lists(types("I N X")) {
		out = append(out, api.Shape{Seen: true, Stack: stack})
	}
	return out
}

// All Shapes, over a few types, of all short code over a few instructions: Right is what holds; Check's answer is one, and below each; and where it has none, there is none.
func TestAllShapesOfShortCode(t *testing.T) {
	few := code(api.OpInt, api.OpNull, api.OpPop, api.OpDup, api.OpSwap, api.OpIsNull, api.OpRet, in(api.OpJump, 0), in(api.OpJump, 1), in(api.OpJump, 2), in(api.OpZero, 1), in(api.OpZero, 2))
	checked, got := map[api.Errno]int{}, map[bool]int{}
	all := options()
	for _, first := range few {
		for _, second := range few {
			for _, third := range few {
				m := api.Module{Funcs: []api.Func{{Ret: number, Code: code(first, second, third)}}, Ints: []uint64{0}, Texts: []string{""}}
				maps, _, _, e := verify.Check(m)
				checked[e]++
				met := false
				for _, at1 := range all {
					for _, at2 := range all {
						one := [][]api.Shape{{{Seen: true}, at1, at2}}
						is := Right(m, one)
						if is != holds(m, one) {
							t.Fatalf("%v of %s; %+v", is, line(one[0]), m)
						}
						got[is]++
						if !is {
							continue
						}
						if e != api.OK {
							t.Fatalf("%s, but Check has %d; %+v", line(one[0]), e, m)
						}
						least(t, m, maps, one)
						met = met || line(one[0]) == line(maps[0])
					}
				}
				if e == api.OK && !met && !slices.ContainsFunc(maps[0], func(s api.Shape) bool { return len(s.Stack) > 2 }) {
					t.Fatalf("%s is not Right; %+v", line(maps[0]), m)
				}
			}
		}
	}
	if checked[api.OK] < 100 || checked[api.ErrType] < 100 || got[true] < 1000 || got[false] < 100000 {
		t.Errorf("too little of one answer, the test tells little: %v %v", checked, got)
	}
}
