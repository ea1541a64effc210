package verify

import (
	"math/rand/v2"
	"slices"
	"testing"

	"chrysalis/api"
	"chrysalis/flow"
	"chrysalis/kind"
	"chrysalis/sane"
)

// leastAbove: the type that each of these is a Sub of, and that is a Sub of each other such one.
func leastAbove(types []api.Type) api.Type {
	var above []api.Type
	for x := range letters {
		if !slices.ContainsFunc(types, func(y api.Type) bool { return !kind.Sub(y, x) }) {
			above = append(above, x)
		}
	}
	for _, x := range above {
		if !slices.ContainsFunc(above, func(y api.Type) bool { return !kind.Sub(x, y) }) {
			return x
		}
	}
	panic("no such type")
}

// next: one round more: what comes to each instruction of function f, by what stands ahead of each as yet; false, if there is an error.
func next(m api.Module, f int, shapes []api.Shape) ([]api.Shape, bool) {
	come := make([][][]api.Type, len(shapes))
	come[0] = [][]api.Type{nil}
	for pc, s := range shapes {
		if !s.Seen {
			continue
		}
		after, leads, e := flow.Flow(m, f, pc, s.Stack)
		if e != api.OK {
			return nil, false
		}
		for _, n := range leads {
			come[n] = append(come[n], after)
		}
	}
	out := make([]api.Shape, len(shapes))
	for pc, stacks := range come {
		if len(stacks) == 0 {
			continue
		}
		out[pc].Seen = true
		for k := range stacks[0] {
			var at []api.Type
			for _, stack := range stacks {
				if len(stack) != len(stacks[0]) {
					return nil, false
				}
				at = append(at, stack[k])
			}
			out[pc].Stack = append(out[pc].Stack, leastAbove(at))
		}
		for _, stack := range stacks {
			if len(stack) != len(stacks[0]) {
				return nil, false
			}
		}
	}
	return out, true
}

// wanted: what Check has to come to, by the chapter's words taken once more: all at once, round by round, until a round changes nothing.
func wanted(m api.Module) ([][]api.Shape, api.Errno) {
	if e := sane.Check(m); e != api.OK {
		return nil, e
	}
	if !sane.Main(m) {
		return nil, api.ErrArg
	}
	var maps [][]api.Shape
	for f, function := range m.Funcs {
		shapes := make([]api.Shape, len(function.Code))
		for {
			then, ok := next(m, f, shapes)
			if !ok {
				return nil, api.ErrType
			}
			if lines(then) == lines(shapes) {
				break
			}
			shapes = then
		}
		maps = append(maps, shapes)
	}
	return maps, api.OK
}

// agrees: that Check comes to what is wanted; whether it is OK.
func agrees(t *testing.T, m api.Module) bool {
	t.Helper()
	want, e := wanted(m)
	maps, f, pc, got := Check(m)
	switch {
	case got != e:
		t.Fatalf("%s, not %d; %+v", said(maps, f, pc, got), e, m)
	case e == api.ErrType:
		if len(maps) != 0 || f < 0 || f >= len(m.Funcs) || pc < 0 || pc >= len(m.Funcs[f].Code) {
			t.Fatalf("%s; %+v", said(maps, f, pc, got), m)
		}
	case said(maps, f, pc, got) != said(want, 0, 0, e):
		t.Fatalf("%s, not %s; %+v", said(maps, f, pc, got), said(want, 0, 0, e), m)
	}
	return e == api.OK
}

// pool: what shaken code is made of, beside jumps and OpRet.
func pool() []api.Instr {
	out := code(api.OpInt, api.OpText, api.OpNull, api.OpPop, api.OpDup, api.OpSwap, api.OpSwap, api.OpAdd, api.OpTwist, in(api.OpCall, 1), in(api.OpHost, 1), in(api.OpHost, 2), in(api.OpHost, 3),
		in(api.OpNew, 0), in(api.OpNew, 1), in(api.OpField, 0, 2), in(api.OpPut, 0, 1), api.OpInts, api.OpLoad, api.OpLen, api.OpBytes, api.OpLenB, api.OpIsNull, api.OpSame, api.OpClose)
	for n := range 5 {
		out = append(out, in(api.OpGet, n), in(api.OpSet, n))
	}
	return out
}

// grown: code for function f of m that would do if there were no jumps, with jumps in it that go, for the most part, where there are as many on the stack.
func grown(r *rand.Rand, m api.Module, f, length int) []api.Instr {
	var out []api.Instr
	var heights []int
	var stack []api.Type
	put := func(i api.Instr, height int) {
		out, heights = append(out, i), append(heights, height)
	}
	trial, all := again(m, 0), pool()
	for tries := 0; len(out) < length-3 && tries < 1000; tries++ {
		height := len(stack)
		switch roll := r.IntN(12); {
		case roll < 2 && height < api.MaxStack:
			put(in(api.OpInt), height)
			put(in(api.OpZero), height+1)
		case roll == 2 && r.IntN(3) == 0:
			put(in(api.OpJump), height)
		default:
			i := all[r.IntN(len(all))]
			trial.Funcs[f].Code = code(i, api.OpRet)
			if after, _, e := flow.Flow(trial, f, 0, stack); e == api.OK {
				put(i, height)
				stack = after
			}
		}
	}
	if len(stack) == api.MaxStack {
		put(in(api.OpPop), len(stack))
		stack = stack[1:]
	}
	put(in(api.OpInt), len(stack))
	put(in(api.OpRet), len(stack)+1)
	return aimed(r, out, heights)
}

// aimed: list, its jumps led to places of the same height, or, now and then, to any.
func aimed(r *rand.Rand, list []api.Instr, heights []int) []api.Instr {
	for pc, i := range list {
		if i.Op != api.OpJump && i.Op != api.OpZero {
			continue
		}
		height := heights[pc]
		if i.Op == api.OpZero {
			height--
		}
		list[pc].A = r.IntN(len(list))
		for r.IntN(60) > 0 && heights[list[pc].A] != height {
			list[pc].A = r.IntN(len(list))
		}
	}
	return list
}

func TestShaken(t *testing.T) {
	r := rand.New(rand.NewPCG(9, 28))
	got := map[bool]int{}
	for range 2000 {
		m := prog(back())
		m = with(m, api.Func{Args: []api.Type{any0, list, rec(0)}, Ret: number, Locals: []api.Type{text, number}, Code: back()})
		length := 4 + r.IntN(12)
		if r.IntN(20) == 0 {
			length = api.MaxCode
		}
		for f := range m.Funcs {
			m.Funcs[f].Code = grown(r, m, f, length)
		}
		got[agrees(t, m)]++
	}
	if got[true] < 400 || got[false] < 400 {
		t.Errorf("too little of one answer, the test tells little: %v", got)
	}
}

// options: all Shapes with at most two of these types.
func options() []api.Shape {
	types := []api.Type{number, text, list, null, any0, none}
	out := []api.Shape{{}, {Seen: true}}
	for _, x := range types {
		out = append(out, api.Shape{Seen: true, Stack: []api.Type{x}})
		for _, y := range types {
			out = append(out, api.Shape{Seen: true, Stack: []api.Type{x, y}})
		}
	}
	return out
}

// below: is each of a's a Sub of b's?
func below(a, b api.Shape) bool {
	return !a.Seen || b.Seen && slices.EqualFunc(a.Stack, b.Stack, kind.Sub)
}

// solutions: all lists of options for m's first function that the chapter's words hold of, whether they are the least ones or not; use is called with each.
func solutions(m api.Module, all []api.Shape, use func(list []api.Shape)) {
	n := len(m.Funcs[0].Code)
	type flown struct {
		after api.Shape
		next  []int
		e     api.Errno
	}
	done := make([][]flown, n)
	for pc := range n {
		for _, s := range all {
			after, next, e := flow.Flow(m, 0, pc, s.Stack)
			done[pc] = append(done[pc], flown{api.Shape{Seen: true, Stack: after}, next, e})
		}
	}
	chosen := make([]int, 0, n)
	holds := func(from, to int) bool { // what comes from one comes to the other, if it leads there
		d := done[from][chosen[from]]
		return !all[chosen[from]].Seen || d.e == api.OK && (!slices.Contains(d.next, to) || below(d.after, all[chosen[to]]))
	}
	var choose func()
	choose = func() {
		pc := len(chosen)
		if pc == n {
			var list []api.Shape
			for _, k := range chosen {
				list = append(list, all[k])
			}
			use(list)
			return
		}
		for k, s := range all {
			if pc == 0 && (!s.Seen || len(s.Stack) > 0) {
				continue
			}
			chosen = append(chosen, k)
			fits := true
			for other := range chosen {
				fits = fits && holds(other, pc) && holds(pc, other)
			}
			if fits {
				choose()
			}
			chosen = chosen[:pc]
		}
	}
	choose()
}

// Of all the lists that the chapter's words hold of, what is answered is one, and stands below each; where nothing is answered, there is none.
func TestTheLeastOfAll(t *testing.T) {
	r := rand.New(rand.NewPCG(28, 9))
	all := options()
	simple := code(api.OpInt, api.OpText, api.OpNull, api.OpPop, api.OpPop, api.OpDup, api.OpSwap, api.OpInts, api.OpLenB, api.OpIsNull, in(api.OpGet, 4), in(api.OpSet, 4))
	got, more := map[api.Errno]int{}, 0
	for range 4000 {
		m := prog(back())
		m.Funcs[0].Code = []api.Instr{simple[r.IntN(3)]}
		for range 3 {
			i := simple[r.IntN(len(simple))]
			if r.IntN(3) == 0 {
				i = in(api.OpZero-r.IntN(2), r.IntN(4))
			}
			m.Funcs[0].Code = append(m.Funcs[0].Code, i)
		}
		if r.IntN(3) > 0 {
			m.Funcs[0].Code[3] = in(api.OpJump, r.IntN(3))
		}
		maps, _, _, e := Check(m)
		if e == api.OK && slices.ContainsFunc(maps[0], func(s api.Shape) bool { return len(s.Stack) > 2 }) {
			continue // the options are too few
		}
		count, met := 0, false
		solutions(m, all, func(other []api.Shape) {
			count++
			if e != api.OK {
				t.Fatalf("%d, though there is %s; %+v", e, lines(other), m)
			}
			met = met || lines(other) == lines(maps[0])
			for pc := range other {
				if !below(maps[0][pc], other[pc]) {
					t.Fatalf("%s is not below %s at %d; %+v", lines(maps[0]), lines(other), pc, m)
				}
			}
		})
		if e == api.OK && !met {
			t.Fatalf("%s does not hold; %+v", lines(maps[0]), m)
		}
		got[e]++
		if count > 1 {
			more++
		}
	}
	if got[api.OK] < 300 || got[api.ErrType] < 300 || more < 200 {
		t.Errorf("too little of one answer, the test tells little: %v, %d", got, more)
	}
}
