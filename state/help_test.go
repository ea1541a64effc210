package state

import (
	"fmt"
	"math"
	"slices"
	"strconv"
	"strings"
	"testing"

	"chrysalis/api"
	"chrysalis/judge"
	"chrysalis/verify"
)

// top: the greatest number.
const top = math.MaxUint64

// The types that the tests speak of most.
var (
	number = api.Type{Kind: api.Int}
	text   = api.Type{Kind: api.Bytes}
	list   = api.Type{Kind: api.Ints}
	null   = api.Type{Kind: api.Null}
	any0   = api.Type{Kind: api.Any}
	none   = api.Type{Kind: api.None}
)

// rec: the type of a record.
func rec(n int) api.Type { return api.Type{Kind: api.Rec, N: n} }

// han: the type of a handle.
func han(n int) api.Type { return api.Type{Kind: api.Han, N: n} }

// in: an instruction; numbers that are not told are 0.
func in(op int, numbers ...int) api.Instr {
	numbers = append(numbers, 0, 0)
	return api.Instr{Op: op, A: numbers[0], B: numbers[1]}
}

// code: instructions, one after the other.
func code(parts ...any) []api.Instr {
	var out []api.Instr
	for _, x := range parts {
		switch y := x.(type) {
		case int:
			out = append(out, in(y))
		case api.Instr:
			out = append(out, y)
		case []api.Instr:
			out = append(out, y...)
		default:
			panic("no instruction")
		}
	}
	return out
}

// back: puts a number, and returns it: the end of most functions.
func back() []api.Instr { return code(api.OpInt, api.OpRet) }

// many: n times x.
func many[T any](n int, x T) []T { return slices.Repeat([]T{x}, n) }

// w: a list of numbers.
func w(numbers ...uint64) []uint64 { return numbers }

// bare: a program of these functions, with something in each other list.
func bare(funcs ...api.Func) api.Module {
	return api.Module{
		Recs:    [][]api.Type{{number, rec(1), text}, {}, {han(1), any0, list}, {rec(3), rec(0)}},
		Funcs:   funcs,
		Imports: []api.Import{{Ret: number}, {Ret: han(0)}, {Ret: han(1)}, {Ret: han(2)}, {Ret: han(3)}, {Args: []api.Type{number, han(1)}, Ret: number}},
		Ints:    []uint64{0, 7},
		Texts:   []string{"hi", ""},
	}
}

// prog: a program of one function without locals.
func prog(parts ...any) api.Module {
	return bare(api.Func{Ret: number, Code: code(parts...)})
}

// world: a program in which functions call each other, and themselves, with something on the stack; function 2 has code that nobody comes to.
func world() api.Module {
	return bare(
		api.Func{Ret: number, Locals: []api.Type{number, text, list, rec(0), any0}, Code: code(
			in(api.OpInt, 1), api.OpText, in(api.OpHost, 2), api.OpInt, in(api.OpCall, 1), api.OpPop, api.OpPop, // 4: I B H1 I
			in(api.OpCall, 0), in(api.OpCall, 3), api.OpPop, api.OpPop, api.OpRet)}, // 7: I; 8: I I
		api.Func{Args: []api.Type{han(1), number}, Ret: any0, Locals: []api.Type{rec(2), any0}, Code: code(
			api.OpNull, in(api.OpGet, 0), in(api.OpGet, 1), in(api.OpZero, 7), in(api.OpGet, 1), in(api.OpGet, 2), in(api.OpJump, 9), in(api.OpText, 1), in(api.OpInt, 1), // 7: N H1
			api.OpPop, api.OpPop, in(api.OpGet, 2), in(api.OpCall, 2), api.OpRet)}, // 9: N H1 X X; 12: N H1 R2
		api.Func{Args: []api.Type{rec(2)}, Ret: rec(2), Code: code(
			in(api.OpGet, 0), in(api.OpGet, 0), in(api.OpCall, 2), api.OpSame, api.OpPop, in(api.OpGet, 0), api.OpRet, // 2: R2 R2
			api.OpDup, in(api.OpCall, 2), api.OpPop, in(api.OpJump, 7))},
		api.Func{Ret: number, Code: code(in(api.OpCall, 3), api.OpRet)},
	)
}

// checked: the Shapes of m.
func checked(t *testing.T, m api.Module) [][]api.Shape {
	t.Helper()
	maps, f, pc, e := verify.Check(m)
	if e != api.OK {
		t.Fatalf("Check: %d at %d of %d; %+v", e, pc, f, m)
	}
	return maps
}

// shapes: a function's Shapes, from words with commas between: - ahead of what is not Seen.
func shapes(line string) []api.Shape {
	const letters = "?IBLRHNAXQ" // Q is of no kind that there is; an N that is not 0 stands behind
	var out []api.Shape
	for _, words := range strings.Split(line, ",") {
		words, unseen := strings.CutPrefix(strings.TrimSpace(words), "-")
		s := api.Shape{Seen: !unseen}
		for _, word := range strings.Fields(words) {
			n, _ := strconv.Atoi(word[1:])
			s.Stack = append(s.Stack, api.Type{Kind: strings.Index(letters, word[:1]), N: n})
		}
		out = append(out, s)
	}
	return out
}

// right: these lines' Shapes, which have to be Right of m.
func right(t *testing.T, m api.Module, lines ...string) [][]api.Shape {
	t.Helper()
	var maps [][]api.Shape
	for _, line := range lines {
		maps = append(maps, shapes(line))
	}
	if !judge.Right(m, maps) {
		t.Fatalf("not Right: %q; %+v", lines, m)
	}
	return maps
}

// at: a frame.
func at(f, pc int, locals, stack []uint64) api.Frame {
	return api.Frame{Func: f, PC: pc, Locals: locals, Stack: stack}
}

// things: objects, the references of which are 1: Bytes, 2: Ints, 3: Rec 0, 4: Rec 1, 5: Rec 2, 6: Bytes, 7: Rec 3, 8: Rec 0.
func things() []api.Obj {
	return []api.Obj{
		{Kind: api.Bytes, Bytes: []byte("abc")}, {Kind: api.Ints, Words: w(top, 1)}, {Kind: api.Rec, Words: w(77, 4, 6)}, {Kind: api.Rec, N: 1},
		{Kind: api.Rec, N: 2, Words: w(3, 5, 2)}, {Kind: api.Bytes}, {Kind: api.Rec, N: 3, Words: w(7, 8)}, {Kind: api.Rec, Words: w(0, 0, 1)},
	}
}

// handles: of kinds 0, 1, 2, 1, 3, open and closed.
func handles() []api.Handle {
	return []api.Handle{{Kind: 0, Desc: 9, Open: true}, {Kind: 1, Desc: 8}, {Kind: 2, Desc: top}, {Kind: 1, Desc: 0, Open: true}, {Kind: 3, Desc: 8, Open: true}}
}

// going: a state of these frames, with things and handles.
func going(frames ...api.Frame) api.State {
	return api.State{Frames: frames, Heap: things(), Hans: handles(), Quota: 1000, Used: 500}
}

// ended: a state at an end, with handles.
func ended(end int, value uint64) api.State {
	return api.State{Hans: handles(), Quota: 1000, Used: 500, End: end, Value: value}
}

// Frames of world that wait: for function 1, 0 and 3; for function 2; for itself; and one that is called by each of them.
func waits1() api.Frame { return at(0, 5, w(5, 1, 2, 3, 4), w(7, 6)) }
func waits0() api.Frame { return at(0, 8, w(0, 0, 0, 0, 0), w(9)) }
func waits3() api.Frame { return at(0, 9, w(top, 6, 2, 8, 7), w(top, 3)) }
func waits2() api.Frame { return at(1, 13, w(1, 6, 5, 4), w(0, 3)) }
func again2() api.Frame { return at(2, 3, w(5), w(0)) }
func again3() api.Frame { return at(3, 1, nil, nil) }
func first0() api.Frame { return at(0, 0, w(1, 0, 0, 0, 0), nil) }
func joins1() api.Frame { return at(1, 9, w(3, 8, 0, 1), w(0, 1, top, 999)) }
func twice2() api.Frame { return at(2, 2, w(0), w(5, 0)) }
func first3() api.Frame { return at(3, 0, nil, nil) }

// chains: frames of world that may stand so.
func chains() [][]api.Frame {
	return [][]api.Frame{
		{first0()}, {at(0, 4, w(1, 6, 0, 8, 2), w(3, 1, 1, top))}, {waits1(), joins1()}, {waits1(), waits2(), twice2()}, {waits1(), waits2(), again2(), again2(), twice2()},
		{waits0(), first0()}, {waits0(), waits0(), waits1(), joins1()}, {waits3(), first3()}, {waits0(), waits3(), again3(), again3(), first3()},
		{waits0(), waits0(), waits1(), waits2(), again2(), again2(), again2(), twice2()},
	}
}

// says: that Typed answers want.
func says(t *testing.T, want bool, m api.Module, maps [][]api.Shape, s api.State) {
	t.Helper()
	if got := Typed(m, maps, s); got != want {
		t.Fatalf("Typed: %v of %s", got, dump(s))
	}
}

// dump: all of s, the spare room of its lists included, as a text.
func dump(s api.State) string {
	var b strings.Builder
	fmt.Fprintln(&b, len(s.Frames), len(s.Heap), len(s.Hans), s.Hans[:cap(s.Hans)], s.Quota, s.Used, s.End, s.Value)
	for _, f := range s.Frames[:cap(s.Frames)] {
		fmt.Fprintln(&b, "frame", f.Func, f.PC, len(f.Locals), f.Locals[:cap(f.Locals)], len(f.Stack), f.Stack[:cap(f.Stack)])
	}
	for _, o := range s.Heap[:cap(s.Heap)] {
		fmt.Fprintln(&b, "object", o.Kind, o.N, len(o.Words), o.Words[:cap(o.Words)], len(o.Bytes), o.Bytes[:cap(o.Bytes)])
	}
	return b.String()
}

// shown: what stands in s, without spare room, as a text.
func shown(s api.State) string {
	var b strings.Builder
	fmt.Fprintln(&b, s.Hans, s.Quota, s.Used, s.End, s.Value)
	for _, f := range s.Frames {
		fmt.Fprintln(&b, "frame", f.Func, f.PC, f.Locals, f.Stack)
	}
	for _, o := range s.Heap {
		fmt.Fprintln(&b, "object", o.Kind, o.N, o.Words, o.Bytes)
	}
	return b.String()
}

// trim: list again, in memory of its own, with n of x in the room behind it.
func trim[T any](list []T, n int, x T) []T {
	return slices.Concat(list, many(n, x))[: len(list) : len(list)+n]
}

// roomy: s in memory of its own, with n things that may not be in the room behind each list.
func roomy(s api.State, n int) api.State {
	s.Frames, s.Heap, s.Hans = trim(s.Frames, n, at(99, 98, w(97), w(96))), trim(s.Heap, n, api.Obj{Kind: 95}), trim(s.Hans, n, api.Handle{Kind: 94})
	for k, f := range s.Frames {
		s.Frames[k].Locals, s.Frames[k].Stack = trim(f.Locals, n, 93), trim(f.Stack, n, 92)
	}
	for k, o := range s.Heap {
		s.Heap[k].Words, s.Heap[k].Bytes = trim(o.Words, n, 91), trim(o.Bytes, n, 90)
	}
	return s
}

// spoil: every place of every list of s, spare room included, is another one.
func spoil(s api.State) {
	for _, f := range s.Frames {
		for _, numbers := range [][]uint64{f.Locals, f.Stack} {
			for i := range numbers[:cap(numbers)] {
				numbers[:cap(numbers)][i] = 0xeeeeeeeeeeeeeeee
			}
		}
	}
	for _, o := range s.Heap {
		for i := range o.Words[:cap(o.Words)] {
			o.Words[:cap(o.Words)][i] = 0xdddddddddddddddd
		}
		for i := range o.Bytes[:cap(o.Bytes)] {
			o.Bytes[:cap(o.Bytes)][i] = 0xdd
		}
	}
	for i := range s.Frames[:cap(s.Frames)] {
		s.Frames[:cap(s.Frames)][i] = at(-77, -78, w(1), w(2))
	}
	for i := range s.Heap[:cap(s.Heap)] {
		s.Heap[:cap(s.Heap)][i] = api.Obj{Kind: -79}
	}
	for i := range s.Hans[:cap(s.Hans)] {
		s.Hans[:cap(s.Hans)][i] = api.Handle{Kind: -80}
	}
}

// strangeNumbers: ints that are seldom good for anything.
func strangeNumbers() []int {
	return []int{math.MinInt, math.MinInt + 1, -1 << 32, -256, -9, -1, 65, 256, 257, 1 << 16, 1<<16 + 1, 1 << 31, 1 << 32, 1<<32 + 1, 1 << 62, math.MaxInt - 1, math.MaxInt}
}
