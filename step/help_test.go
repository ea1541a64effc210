package step

import (
	"fmt"
	"math"
	"slices"
	"strings"
	"testing"

	"chrysalis/api"
	"chrysalis/state"
	"chrysalis/verify"
)

// top: the greatest number.
const top = math.MaxUint64

// The types that the tests speak of most.
var (
	number = api.Type{Kind: api.Int}
	text   = api.Type{Kind: api.Bytes}
	list   = api.Type{Kind: api.Ints}
	any0   = api.Type{Kind: api.Any}
)

// rec: the type of a record.
func rec(n int) api.Type { return api.Type{Kind: api.Rec, N: n} }

// han: the type of a handle.
func han(n int) api.Type { return api.Type{Kind: api.Han, N: n} }

// in: an instruction; numbers that are not told are 0.
func in(op int, numbers ...int) api.Instr {
	numbers = append(numbers, 0, 0)
	return api.Instr{Op: op, A: numbers[0], B: numbers[1]}
}

// code: instructions, one after the other.
func code(parts ...any) []api.Instr {
	var out []api.Instr
	for _, x := range parts {
		switch y := x.(type) {
		case int:
			out = append(out, in(y))
		case api.Instr:
			out = append(out, y)
		case []api.Instr:
			out = append(out, y...)
		default:
			panic("no instruction")
		}
	}
	return out
}

// many: n times x.
func many[T any](n int, x T) []T { return slices.Repeat([]T{x}, n) }

// w: a list of numbers.
func w(numbers ...uint64) []uint64 { return numbers }

// ints: the numbers of the tests' programs, each under the number by which they name it.
func ints() []uint64 {
	return w(0, 1, 2, 3, 64, 65, 1<<32, 1<<63, top, 200, 0x12345678, 7, 0x10002, 0x30004, 6)
}

// n: puts a number, which has to be one of ints.
func n(v uint64) api.Instr {
	at := slices.Index(ints(), v)
	if at < 0 {
		panic(fmt.Sprint("no number ", v))
	}
	return in(api.OpInt, at)
}

// The imports of the tests' programs.
const (
	askNumber = 0 // nothing: a number
	askHan    = 1 // nothing: a handle of kind 2
	tellHan   = 2 // a handle of kind 2: a number
	tellMany  = 3 // a number, handles of kinds 2 and 3, a number: a handle of kind 3
	askOther  = 4 // nothing: a handle of kind 3
	tellTwo   = 5 // two numbers: a number
	askFirst  = 6 // a handle of kind 2, a number: a handle of kind 0
)

// bare: a program of these functions, with something in each other list.
func bare(funcs ...api.Func) api.Module {
	return api.Module{
		Recs:  [][]api.Type{{number, rec(0)}, {}, {text, list, any0, number, han(2), rec(2)}, {han(3)}},
		Funcs: funcs,
		Imports: []api.Import{
			{Ret: number}, {Ret: han(2)}, {Args: []api.Type{han(2)}, Ret: number},
			{Args: []api.Type{number, han(2), han(3), number}, Ret: han(3)}, {Ret: han(3)},
			{Args: []api.Type{number, number}, Ret: number}, {Args: []api.Type{han(2), number}, Ret: han(0)},
		},
		Ints:  ints(),
		Texts: []string{"hi", "", "\x00\xff\x80", strings.Repeat("x", api.MaxText)},
	}
}

// locals: of function 0 of most programs.
func locals() []api.Type { return []api.Type{number, rec(0), text, list, rec(2), any0} }

// prog: a program of one function, with locals, the result of which is a number.
func prog(parts ...any) api.Module {
	return bare(api.Func{Ret: number, Locals: locals(), Code: code(parts...)})
}

// begun: the state in which m begins.
func begun(t *testing.T, m api.Module, quota int) api.State {
	t.Helper()
	s, e := state.Begin(m, quota)
	if e != api.OK {
		t.Fatalf("Begin: %d; %+v", e, m)
	}
	return s
}

// load: a machine of m in s.
func load(t *testing.T, m api.Module, s api.State) *Machine {
	t.Helper()
	x, e := Load(m, s)
	if e != api.OK || x == nil {
		_, f, pc, _ := verify.Check(m)
		t.Fatalf("Load: %d (at %d of function %d); %s; %+v", e, pc, f, shown(s), m)
	}
	return x
}

// start: a machine of m at its beginning.
func start(t *testing.T, m api.Module, quota int) *Machine {
	t.Helper()
	return load(t, m, begun(t, m, quota))
}

// refuses: that Load answers e, and no machine.
func refuses(t *testing.T, m api.Module, s api.State, e api.Errno) {
	t.Helper()
	if x, got := Load(m, s); got != e || x != nil {
		t.Fatalf("Load: %v, %d, not %d; %s; %+v", x, got, e, shown(s), m)
	}
}

// quiet: that the next instruction is done, and nothing is told.
func quiet(t *testing.T, x *Machine) {
	t.Helper()
	if told, did := x.Next(12345); !did || len(told) > 0 {
		t.Fatalf("Next: %v, %v; %s", told, did, shown(x.State()))
	}
}

// tells: that the next instruction asks for that import, and the host is told just this.
func tells(t *testing.T, x *Machine, answer uint64, asked int, args ...uint64) {
	t.Helper()
	wants(t, x, asked)
	told, did := x.Next(answer)
	if !did || len(told) != 1 || told[0].Import != asked || !slices.Equal(told[0].Args, args) {
		t.Fatalf("Next: %v, %v, not %d with %v", told, did, asked, args)
	}
}

// wants: that the next instruction asks for that import.
func wants(t *testing.T, x *Machine, asked int) {
	t.Helper()
	if got, ok := x.Want(); !ok || got != asked {
		t.Fatalf("Want: %d, %v, not %d", got, ok, asked)
	}
}

// wantsNone: that the next instruction asks for no import.
func wantsNone(t *testing.T, x *Machine) {
	t.Helper()
	if got, ok := x.Want(); ok || got != 0 {
		t.Fatalf("Want: %d, %v; %s", got, ok, shown(x.State()))
	}
}

// is: that x is in that state.
func is(t *testing.T, x *Machine, want api.State) {
	t.Helper()
	if got := x.State(); !state.Same(got, want) {
		t.Fatalf("State: %s; not %s", shown(got), shown(want))
	}
}

// over: that x is at that end, having used so much; that nothing is left; and that it stays so.
func over(t *testing.T, x *Machine, end int, value uint64, used int) {
	t.Helper()
	s := x.State()
	if s.End != end || s.Value != value || s.Used != used || len(s.Frames) > 0 || len(s.Heap) > 0 {
		t.Fatalf("at %d behind %d, used %d, not %d behind %d, used %d: %s", s.End, s.Value, s.Used, end, value, used, shown(s))
	}
	for answer := range uint64(3) {
		wantsNone(t, x)
		if told, did := x.Next(answer); did || told != nil {
			t.Fatalf("Next behind the end: %v, %v", told, did)
		}
		is(t, x, s)
	}
}

// goes: does instructions, up to the end, the host answering a, a + 1, ..; answers how many were done.
func goes(t *testing.T, x *Machine, a uint64) int {
	t.Helper()
	for done := range 10000 {
		_, asked := x.Want()
		told, did := x.Next(a)
		if !did {
			return done
		}
		if len(told) > 0 && !asked {
			t.Fatalf("told %v, though nothing was asked for", told)
		}
		if asked {
			a++
		}
	}
	t.Fatal("no end")
	return 0
}

// comes: that a program of this code, with plenty of room, comes to that number, and to how many instructions.
func comes(t *testing.T, value uint64, parts ...any) {
	t.Helper()
	x := start(t, prog(parts...), api.MaxQuota)
	goes(t, x, 1000)
	over(t, x, api.Done, value, x.State().Used)
}

// traps: that a program of this code comes to that end behind its last instruction but OpRet, with so much used.
func traps(t *testing.T, end, quota, used int, parts ...any) {
	t.Helper()
	before := code(parts...)
	x := start(t, prog(before, n(0), api.OpRet), quota)
	for range len(before) - 1 {
		quiet(t, x)
		if s := x.State(); s.End != api.Going || len(s.Frames) == 0 {
			t.Fatalf("too early: %s; %v", shown(s), before)
		}
	}
	quiet(t, x)
	over(t, x, end, 0, used)
}

// at: a frame.
func at(f, pc int, locals, stack []uint64) api.Frame {
	return api.Frame{Func: f, PC: pc, Locals: locals, Stack: stack}
}

// shown: what stands in s, as a text.
func shown(s api.State) string {
	var b strings.Builder
	fmt.Fprintln(&b, "hans", s.Hans, "quota", s.Quota, "used", s.Used, "end", s.End, "value", s.Value)
	for _, f := range s.Frames {
		fmt.Fprintln(&b, "frame", f.Func, f.PC, f.Locals, f.Stack)
	}
	for k, o := range s.Heap {
		fmt.Fprintln(&b, "object", k+1, o.Kind, o.N, o.Words, o.Bytes)
	}
	return b.String()
}
