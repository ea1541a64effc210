package state

import (
	"slices"
	"testing"

	"chrysalis/api"
)

func TestChains(t *testing.T) {
	m := world()
	maps := checked(t, m)
	for _, frames := range chains() {
		says(t, true, m, maps, going(frames...))
		if last := len(frames) - 1; last > 0 {
			says(t, frames[1].Func == 0, m, maps, going(frames[1:]...))
			says(t, false, m, maps, going(frames[:last]...)) // what waits has no answer on its stack
		}
		for n, f := range frames {
			waits := n < len(frames)-1
			twice := slices.Insert(slices.Clone(frames), n, f)
			says(t, waits && callsItself(m, f) && len(twice) <= api.MaxDepth, m, maps, going(twice...))
			if waits && n > 0 {
				says(t, f.Func == frames[n+1].Func, m, maps, going(slices.Delete(slices.Clone(frames), n, n+1)...))
			}
		}
	}
}

// callsItself: that f waits for a call of its own function.
func callsItself(m api.Module, f api.Frame) bool {
	return m.Funcs[f.Func].Code[f.PC-1] == in(api.OpCall, f.Func)
}

func TestDepth(t *testing.T) {
	m := bare(api.Func{Ret: number, Code: code(in(api.OpCall, 0), api.OpRet)})
	maps := checked(t, m)
	for depth := range 3 * api.MaxDepth {
		frames := many(depth, at(0, 1, nil, nil))
		s := going(append(slices.Clone(frames), at(0, 0, nil, nil))...)
		says(t, depth < api.MaxDepth, m, maps, s)
		s.Frames[depth] = at(0, 1, nil, w(9)) // what it called has answered
		says(t, depth < api.MaxDepth, m, maps, s)
		says(t, false, m, maps, going(frames...))
	}
	says(t, false, m, maps, going(many(256, at(0, 1, nil, nil))...))
	says(t, false, m, maps, going(append(many(255, at(0, 1, nil, nil)), at(0, 0, nil, nil))...))
	says(t, false, m, maps, going(append(many(256, at(0, 1, nil, nil)), at(0, 0, nil, nil))...))
	says(t, false, m, maps, going())
}

// It begins with function 0, whatever the others might do alone.
func TestFirstFrame(t *testing.T) {
	body := code(in(api.OpCall, 0), api.OpRet)
	m := bare(api.Func{Ret: number, Code: body}, api.Func{Ret: number, Code: body}, api.Func{Ret: number, Code: code(in(api.OpCall, 1), in(api.OpCall, 2), api.OpPop, api.OpRet)})
	maps := checked(t, m)
	for f := range 3 {
		says(t, f == 0, m, maps, going(at(f, 0, nil, nil)))
		says(t, f == 0, m, maps, going(at(f, 1, nil, w(7))))
		says(t, f == 0, m, maps, going(at(f, 1, nil, nil), at([]int{0, 0, 1}[f], 0, nil, nil)))
		says(t, f == 0, m, maps, going(at(0, 1, nil, nil), at(f, 0, nil, nil)))
	}
	says(t, false, m, maps, going(at(1, 1, nil, nil), at(0, 1, nil, nil), at(0, 0, nil, nil)))
}

func TestNoSuchPlace(t *testing.T) {
	m := world()
	maps := checked(t, m)
	strange := append(strangeNumbers(), -3, -2, -1, 4, 5, 6, 7, 8, 9, 12, 13, 14, 15, 63, 64)
	for _, frames := range chains() {
		for n, f := range frames {
			for _, x := range strange {
				if x < 0 || x >= len(m.Funcs) {
					asks(t, false, m, maps, going(frames...), func(c *api.State) { c.Frames[n].Func = x })
				}
				if x < 0 || x >= len(m.Funcs[f.Func].Code) {
					asks(t, false, m, maps, going(frames...), func(c *api.State) { c.Frames[n].PC = x })
				}
			}
		}
	}
	for _, x := range strange {
		says(t, false, m, maps, going(at(x, x, nil, nil)))
		says(t, false, m, maps, going(at(0, x, nil, nil)))
	}
}

// worldLines: the Shapes of world, as they stand.
func worldLines() []string {
	return []string{
		", I, I B, I B H1, I B H1 I, I B A, I B, I, I I, I I I, I I, I",
		", N, N H1, N H1 I, N H1, N H1 I, N H1 I R2, N H1, N H1 B, N H1 X X, N H1 X, N H1, N H1 R2, N H1 R2",
		", R2, R2 R2, R2 R2, I, , R2, -, -, -, -", ", I",
	}
}

// stacks: numbers that stand on a stack somewhere, and others like them.
func stacks() [][]uint64 {
	return [][]uint64{
		nil, w(99), w(0), w(5), w(99, 1), w(99, 99), w(99, 7), w(0, 3), w(0, 99), w(5, 5), w(99, 5), w(5, 99), w(99, 6, 1), w(99, 1, 7), w(99, 1, 9), w(99, 99, 99), w(0, 1, 99), w(0, 1, 6), w(0, 3, 5), w(5, 3, 5), w(0, 3, 2),
		w(99, 1, 1, 99), w(99, 1, 2, 99), w(99, 3, 1, 99), w(0, 1, 6, 99), w(0, 3, 99, 5), w(0, 3, 99, 4), w(0, 3, 99, 99), w(1, 3, 99, 99), w(0, 2, 99, 99), w(0, 3, 99, 99, 99), w(99, 1, 1, 99, 0), w(0, 0, 0, 0, 0, 0, 0, 0),
	}
}

// have: that these numbers have these types among things and handles.
func have(numbers []uint64, types []api.Type) bool {
	return slices.EqualFunc(numbers, types, func(n uint64, x api.Type) bool {
		return x == number || x == none || slices.Contains(fits()[x], n)
	})
}

// Where the stack is what stands there, and nowhere else: elsewhere it has other types, or is of another height, or nobody comes there.
func TestEachPlaceHasItsStack(t *testing.T) {
	m := world()
	maps := right(t, m, worldLines()...)
	for f, list := range maps {
		if !slices.EqualFunc(list, checked(t, m)[f], func(a, b api.Shape) bool { return a.Seen == b.Seen && slices.Equal(a.Stack, b.Stack) }) {
			t.Fatalf("function %d: %v, not %v", f, checked(t, m)[f], list)
		}
	}
	locals := [][]uint64{w(0, 1, 2, 3, 4), w(1, 0, 5, 0), w(5), nil}
	before := [][]api.Frame{nil, {waits1()}, {waits1(), waits2()}, {waits3()}}
	for f, list := range maps {
		for pc, s := range list {
			typed := 0
			for _, stack := range stacks() {
				want := s.Seen && have(stack, s.Stack)
				says(t, want, m, maps, going(append(slices.Clone(before[f]), at(f, pc, locals[f], stack))...))
				if want {
					typed++
				}
			}
			if s.Seen != (typed > 0) {
				t.Errorf("no stack at %d of %d", pc, f)
			}
		}
	}
}

// Behind a call of the next one's function, and nowhere else, with what stands below what was handed over.
func TestEachCallHasItsStack(t *testing.T) {
	m := world()
	maps := right(t, m, worldLines()...)
	calls := map[[2]int]string{{0, 5}: "I B", {0, 8}: "I", {0, 9}: "I I", {1, 13}: "N H1", {2, 3}: "R2", {3, 1}: ""} // by the frame's function and instruction
	called := map[[2]int]int{{0, 5}: 1, {0, 8}: 0, {0, 9}: 3, {1, 13}: 2, {2, 3}: 2, {3, 1}: 3}
	locals := [][]uint64{w(0, 1, 2, 3, 4), w(1, 0, 5, 0), w(5), nil}
	before := [][]api.Frame{nil, {waits1()}, {waits1(), waits2()}, {waits3()}}
	for f, list := range maps {
		for pc := range list {
			words, is := calls[[2]int{f, pc}]
			for next, last := range []api.Frame{first0(), joins1(), twice2(), first3()} {
				for _, stack := range stacks() {
					want := is && next == called[[2]int{f, pc}] && have(stack, shapes(words)[0].Stack)
					says(t, want, m, maps, going(append(slices.Clone(before[f]), at(f, pc, locals[f], stack), last)...))
				}
			}
		}
	}
}

// As many locals as there are, the arguments first, each of its own type; in whichever frame.
func TestLocals(t *testing.T) {
	m := world()
	maps := checked(t, m)
	for _, frames := range chains() {
		for n, f := range frames {
			function := m.Funcs[f.Func]
			types := slices.Concat(function.Args, function.Locals)
			for k, x := range types {
				for _, v := range w(0, 1, 2, 3, 4, 5, 6, 7, 8, 9, 1<<32+1, top) {
					want := x == number || slices.Contains(fits()[x], v)
					asks(t, want, m, maps, going(frames...), func(c *api.State) { c.Frames[n].Locals[k] = v })
				}
				asks(t, false, m, maps, going(frames...), func(c *api.State) { c.Frames[n].Locals = c.Frames[n].Locals[:k] })
				asks(t, false, m, maps, going(frames...), func(c *api.State) { c.Frames[n].Locals = slices.Insert(c.Frames[n].Locals, k, 0) })
			}
			asks(t, false, m, maps, going(frames...), func(c *api.State) { c.Frames[n].Locals = append(c.Frames[n].Locals, 0) })
			asks(t, false, m, maps, going(frames...), func(c *api.State) { c.Frames[n].Locals = append(c.Frames[n].Locals, make([]uint64, 256)...) })
			asks(t, len(types) == 0, m, maps, going(frames...), func(c *api.State) { c.Frames[n].Locals = nil })
		}
	}
}

// What is handed over is not on the stack of what waits, and what is answered not yet.
func TestWhatIsHandedOver(t *testing.T) {
	for args := range api.MaxArgs + 1 {
		for below := range api.MaxStack - args {
			body := code(many(below+args, in(api.OpInt)), in(api.OpCall, 1), many(below, in(api.OpPop)), api.OpRet)
			m := bare(api.Func{Ret: number, Code: body}, api.Func{Args: many(args, number), Ret: number, Code: code(in(api.OpJump, 0))})
			maps := checked(t, m)
			for height := range api.MaxStack + 2 {
				s := going(at(0, below+args+1, nil, many(height, uint64(5))), at(1, 0, many(args, uint64(6)), nil))
				says(t, height == below, m, maps, s)
				says(t, height == below+1, m, maps, going(s.Frames[0])) // answered
				s.Frames[0].PC--
				says(t, false, m, maps, s)
				says(t, height == below+args, m, maps, going(s.Frames[0])) // not yet called
			}
		}
	}
}

// It is the call ahead of where a frame stands that counts, not one that it stands at, nor one elsewhere.
func TestWhichCallCounts(t *testing.T) {
	one := api.Func{Ret: number, Code: back()}
	m := bare(api.Func{Ret: number, Code: code(in(api.OpCall, 1), in(api.OpCall, 2), in(api.OpPop), in(api.OpPop), in(api.OpInt), api.OpRet)}, one, one, one)
	maps := checked(t, m)
	for pc := range 6 {
		for f := range 4 {
			for height := range 4 {
				want := pc == 1 && f == 1 && height == 0 || pc == 2 && f == 2 && height == 1
				says(t, want, m, maps, going(at(0, pc, nil, many(height, uint64(3))), at(f, 0, nil, nil)))
			}
		}
	}
	m = bare(api.Func{Ret: number, Code: code(in(api.OpInt, 1), in(api.OpHost, 0), api.OpAdd, api.OpRet)}, one) // other ones that name 1
	for pc := range 4 {
		for height := range 3 {
			says(t, false, m, checked(t, m), going(at(0, pc, nil, many(height, uint64(3))), at(1, 0, nil, nil)))
		}
	}
}

// Behind a call that nobody comes to there is no waiting, even where somebody comes another way.
func TestCallsThatAreNotSeen(t *testing.T) {
	m := prog(in(api.OpInt), in(api.OpJump, 3), in(api.OpCall, 0), api.OpRet) // 2 is not come to, 3 is
	last := at(0, 0, nil, nil)
	maps := right(t, m, ", I, -, I")
	says(t, false, m, maps, going(at(0, 3, nil, nil), last))
	says(t, false, m, maps, going(at(0, 2, nil, nil)))
	maps = right(t, m, ", I, , I")
	says(t, true, m, maps, going(at(0, 3, nil, nil), last))
	says(t, false, m, maps, going(at(0, 3, nil, w(1)), last))
	says(t, true, m, maps, going(at(0, 2, nil, nil)))
	maps = right(t, m, ", I, -I, I") // what is told of what is not Seen is not asked
	says(t, false, m, maps, going(at(0, 3, nil, nil), last))
	says(t, false, m, maps, going(at(0, 2, nil, w(1))))
	says(t, true, m, maps, going(at(0, 3, nil, w(1))))
}
