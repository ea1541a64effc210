package ir

import (
	"fmt"
	"slices"
	"strings"
	"testing"

	"chrysalis/api"
)

// The types that the tests speak of most.
var (
	number = api.Type{Kind: api.Int}
	text   = api.Type{Kind: api.Bytes}
	list   = api.Type{Kind: api.Ints}
	null   = api.Type{Kind: api.Null}
	any0   = api.Type{Kind: api.Any}
	odd    = api.Type{Kind: 77, N: 78} // nothing has it: for the room behind lists
)

// rec: the type of a record.
func rec(n int) api.Type { return api.Type{Kind: api.Rec, N: n} }

// han: the type of a handle.
func han(n int) api.Type { return api.Type{Kind: api.Han, N: n} }

// is: a list of types.
func is(types ...api.Type) []api.Type { return types }

// in: an instruction; numbers that are not told are 0.
func in(op int, numbers ...int) api.Instr {
	numbers = append(numbers, 0, 0)
	return api.Instr{Op: op, A: numbers[0], B: numbers[1]}
}

// many: n times x.
func many[T any](n int, x T) []T { return slices.Repeat([]T{x}, n) }

// code: instructions and lists of them, one after the other.
func code(parts ...any) []api.Instr {
	var out []api.Instr
	for _, x := range parts {
		switch y := x.(type) {
		case int:
			out = append(out, in(y))
		case api.Instr:
			out = append(out, y)
		case []api.Instr:
			out = append(out, y...)
		default:
			panic("no instruction")
		}
	}
	return out
}

// back: puts a number, and returns it: the end of most functions.
func back() []api.Instr { return code(api.OpInt, api.OpRet) }

// perhaps: goes to a, or not, and leaves the stack as it was: two instructions.
func perhaps(a int) []api.Instr { return code(api.OpInt, in(api.OpZero, a)) }

// bare: a program of these functions, with something in each other list, no two of them with as many; import k, up to 3, puts a handle of that kind.
func bare(funcs ...api.Func) api.Module {
	return api.Module{
		Recs:  [][]api.Type{{number, rec(1), text}, {}, {text, list, any0, han(1), rec(0), number}},
		Funcs: funcs,
		Imports: []api.Import{
			{Ret: han(0)}, {Ret: han(1)}, {Ret: han(2)}, {Ret: han(3)}, {Ret: number}, {Args: is(number, han(3)), Ret: han(0)},
			{Args: is(han(1), number, han(2), number), Ret: number}, {Args: is(number), Ret: number},
		},
		Ints:  []uint64{0, 7, 5, 3, 1 << 63, ^uint64(0)},
		Texts: []string{"hi", "", "\x00\xff", "a"},
	}
}

// prog: a program of one function with four locals: number, text, list, rec(0).
func prog(parts ...any) api.Module {
	return bare(api.Func{Ret: number, Locals: is(number, text, list, rec(0)), Code: code(parts...)})
}

// with: m, and a function more.
func with(m api.Module, f api.Func) api.Module {
	m.Funcs = append(slices.Clone(m.Funcs), f)
	return m
}

// line: what became of a function's instructions as the tests write it: - for nothing, else At, In>Out; what it is of its instruction stands there if it is another one.
func line(was []api.Instr, list []Ins) string {
	var out []string
	for pc, x := range list {
		word := fmt.Sprintf("%d %d>%d", x.At, x.In, x.Out)
		if (x == Ins{}) {
			word = "-"
		} else if pc >= len(was) || (api.Instr{Op: x.Op, A: x.A, B: x.B}) != was[pc] {
			word = fmt.Sprint(x)
		}
		out = append(out, word)
	}
	return strings.Join(out, ", ")
}

// comes: that Compile makes this of m, function by function, twice.
func comes(t *testing.T, m api.Module, want ...string) {
	t.Helper()
	for range 2 {
		got, e := Compile(m)
		if e != api.OK || len(got) != len(want) {
			t.Fatalf("%d, %d functions, not %d; %+v", e, len(got), len(want), m)
		}
		for f, x := range got {
			if line(m.Funcs[f].Code, x) != want[f] || len(x) != len(m.Funcs[f].Code) {
				t.Fatalf("function %d: %s\nnot %s; %+v", f, line(m.Funcs[f].Code, x), want[f], m)
			}
		}
	}
}

// refused: that Compile has error e, and nothing beside.
func refused(t *testing.T, m api.Module, e api.Errno) {
	t.Helper()
	for range 2 {
		if got, gotE := Compile(m); gotE != e || len(got) > 0 {
			t.Fatalf("%v, %d; not error %d alone; %+v", got, gotE, e, m)
		}
	}
}

// has: that a frame of function f of m has so many registers.
func has(t *testing.T, m api.Module, f, want int) {
	t.Helper()
	for range 2 {
		if got := Regs(m, f); got != want {
			t.Fatalf("Regs of function %d: %d, not %d; %+v", f, got, want, m)
		}
	}
}

// trim: list again, in memory of its own, with n of x in the room behind it.
func trim[T any](list []T, n int, x T) []T {
	return slices.Concat(list, many(n, x))[:len(list)]
}

// again: m in memory of its own, with n things that may not be in the room behind each list.
func again(m api.Module, n int) api.Module {
	out := api.Module{
		Recs: trim(m.Recs, n, many(1, odd)), Funcs: trim(m.Funcs, n, api.Func{Ret: odd}), Imports: trim(m.Imports, n, api.Import{Ret: odd}),
		Ints: trim(m.Ints, n, 79), Texts: trim(m.Texts, n, strings.Repeat("-", 80)),
	}
	for k, fields := range out.Recs {
		out.Recs[k] = trim(fields, n, odd)
	}
	for k, f := range out.Funcs {
		out.Funcs[k] = api.Func{Args: trim(f.Args, n, odd), Ret: f.Ret, Locals: trim(f.Locals, n, odd), Code: trim(f.Code, n, in(api.OpRet))}
	}
	for k, i := range out.Imports {
		out.Imports[k] = api.Import{Args: trim(i.Args, n, odd), Ret: i.Ret}
	}
	return out
}

// dump: all of m, its lists' spare room included, as a text.
func dump(m api.Module) string {
	var b strings.Builder
	for _, fields := range m.Recs[:cap(m.Recs)] {
		fmt.Fprintln(&b, len(fields), fields[:cap(fields)])
	}
	for _, f := range m.Funcs[:cap(m.Funcs)] {
		fmt.Fprintln(&b, len(f.Args), f.Args[:cap(f.Args)], f.Ret, len(f.Locals), f.Locals[:cap(f.Locals)], len(f.Code), f.Code[:cap(f.Code)])
	}
	for _, i := range m.Imports[:cap(m.Imports)] {
		fmt.Fprintln(&b, len(i.Args), i.Args[:cap(i.Args)], i.Ret)
	}
	fmt.Fprintln(&b, len(m.Recs), len(m.Funcs), len(m.Imports), len(m.Ints), m.Ints[:cap(m.Ints)], len(m.Texts))
	fmt.Fprintf(&b, "%q", m.Texts[:cap(m.Texts)])
	return b.String()
}
