package run

import (
	"fmt"
	"math"
	"slices"
	"testing"

	"chrysalis/api"
	"chrysalis/state"
	"chrysalis/step"
	"chrysalis/verify"
)

// top: the greatest number.
const top = math.MaxUint64

// The types that the tests speak of most.
var (
	number = api.Type{Kind: api.Int}
	text   = api.Type{Kind: api.Bytes}
	list   = api.Type{Kind: api.Ints}
)

// han: the type of a handle.
func han(n int) api.Type { return api.Type{Kind: api.Han, N: n} }

// in: an instruction; numbers that are not told are 0.
func in(op int, numbers ...int) api.Instr {
	numbers = append(numbers, 0, 0)
	return api.Instr{Op: op, A: numbers[0], B: numbers[1]}
}

// code: instructions, one after the other.
func code(parts ...any) []api.Instr {
	var out []api.Instr
	for _, x := range parts {
		switch y := x.(type) {
		case int:
			out = append(out, in(y))
		case api.Instr:
			out = append(out, y)
		case []api.Instr:
			out = append(out, y...)
		default:
			panic("no instruction")
		}
	}
	return out
}

// w: a list of numbers.
func w(numbers ...uint64) []uint64 { return numbers }

// upFrom: so many numbers, the first one first.
func upFrom(first uint64, many int) []uint64 {
	out := make([]uint64, many)
	for k := range out {
		out[k] = first + uint64(k)
	}
	return out
}

// ints: the numbers of the tests' programs, each under the number by which they name it.
func ints() []uint64 { return w(0, 1, 2, 3, 7, 65, 200, top) }

// n: puts a number, which has to be one of ints.
func n(v uint64) api.Instr {
	at := slices.Index(ints(), v)
	if at < 0 {
		panic(fmt.Sprint("no number ", v))
	}
	return in(api.OpInt, at)
}

// The imports of the tests' programs.
const (
	askNumber = 0 // nothing: a number
	askHan    = 1 // nothing: a handle of kind 2
	tellHan   = 2 // a handle of kind 2: a number
	tellOne   = 3 // a number: a number
	tellTwo   = 4 // two numbers: a number
	tellMixed = 5 // a number, a handle of kind 2: a handle of kind 1
)

// bare: a program of these functions, with something in each other list.
func bare(funcs ...api.Func) api.Module {
	return api.Module{
		Recs:  [][]api.Type{{number, {Kind: api.Rec}}},
		Funcs: funcs,
		Imports: []api.Import{
			{Ret: number}, {Ret: han(2)}, {Args: []api.Type{han(2)}, Ret: number}, {Args: []api.Type{number}, Ret: number},
			{Args: []api.Type{number, number}, Ret: number}, {Args: []api.Type{number, han(2)}, Ret: han(1)},
		},
		Ints:  ints(),
		Texts: []string{"hi", ""},
	}
}

// prog: a program of one function, with locals, the result of which is a number.
func prog(parts ...any) api.Module {
	return bare(api.Func{Ret: number, Locals: []api.Type{number, text, list, {Kind: api.Rec}}, Code: code(parts...)})
}

// begun: the state in which m begins.
func begun(t *testing.T, m api.Module, quota int) api.State {
	t.Helper()
	s, e := state.Begin(m, quota)
	if e != api.OK {
		t.Fatalf("Begin: %d; %+v", e, m)
	}
	return s
}

// load: a machine of m in s.
func load(t *testing.T, m api.Module, s api.State) *step.Machine {
	t.Helper()
	x, e := step.Load(m, s)
	if e != api.OK || x == nil {
		_, f, pc, _ := verify.Check(m)
		t.Fatalf("Load: %d (at %d of function %d); %+v; %+v", e, pc, f, s, m)
	}
	return x
}

// start: a machine of m at its beginning.
func start(t *testing.T, m api.Module, quota int) *step.Machine {
	t.Helper()
	return load(t, m, begun(t, m, quota))
}

// event: what the host is told.
func event(asked int, args ...uint64) api.Event { return api.Event{Import: asked, Args: args} }

// sameEvents: that both lists tell the same.
func sameEvents(a, b []api.Event) bool {
	return slices.EqualFunc(a, b, func(a, b api.Event) bool { return a.Import == b.Import && slices.Equal(a.Args, b.Args) })
}

// runs: that Run does so many instructions, uses so many answers, and tells just this.
func runs(t *testing.T, x *step.Machine, fuel int, answers []uint64, done, used int, told ...api.Event) {
	t.Helper()
	gotTold, gotDone, gotUsed := Run(x, fuel, answers)
	if gotDone != done || gotUsed != used || !sameEvents(gotTold, told) {
		t.Fatalf("Run of %d with %v: %v, %d, %d; not %v, %d, %d", fuel, answers, gotTold, gotDone, gotUsed, told, done, used)
	}
}

// is: that x is in that state.
func is(t *testing.T, x *step.Machine, want api.State) {
	t.Helper()
	if got := x.State(); !state.Same(got, want) {
		t.Fatalf("State: %+v; not %+v", got, want)
	}
}

// over: that x is at that end, and that no Run does anything to it any more.
func over(t *testing.T, x *step.Machine, end int, value uint64) {
	t.Helper()
	s := x.State()
	if s.End != end || s.Value != value || len(s.Frames) > 0 {
		t.Fatalf("not at %d behind %d: %+v", end, value, s)
	}
	for _, fuel := range []int{1, 2, math.MaxInt, 0, -1} {
		runs(t, x, fuel, nil, 0, 0)
		runs(t, x, fuel, w(5, 6), 0, 0)
		is(t, x, s)
	}
}

// at: that x stands at that instruction of its last function, with that stack.
func at(t *testing.T, x *step.Machine, pc int, stack ...uint64) {
	t.Helper()
	s := x.State()
	if len(s.Frames) == 0 || s.End != api.Going {
		t.Fatalf("not going: %+v", s)
	}
	if f := s.Frames[len(s.Frames)-1]; f.PC != pc || !slices.Equal(f.Stack, stack) {
		t.Fatalf("at %d with %v, not at %d with %v", f.PC, f.Stack, pc, stack)
	}
}
