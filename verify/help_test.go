package verify

import (
	"fmt"
	"slices"
	"strings"
	"testing"

	"chrysalis/api"
)

// The types that the tests speak of most.
var (
	number = api.Type{Kind: api.Int}
	text   = api.Type{Kind: api.Bytes}
	list   = api.Type{Kind: api.Ints}
	null   = api.Type{Kind: api.Null}
	any0   = api.Type{Kind: api.Any}
	none   = api.Type{Kind: api.None}
	odd    = api.Type{Kind: 77, N: 78} // nothing has it: for the room behind lists
)

// rec: the type of a record.
func rec(n int) api.Type { return api.Type{Kind: api.Rec, N: n} }

// han: the type of a handle.
func han(n int) api.Type { return api.Type{Kind: api.Han, N: n} }

// in: an instruction; numbers that are not told are 0.
func in(op int, numbers ...int) api.Instr {
	numbers = append(numbers, 0, 0)
	return api.Instr{Op: op, A: numbers[0], B: numbers[1]}
}

// many: n times x.
func many[T any](n int, x T) []T { return slices.Repeat([]T{x}, n) }

// code: instructions and lists of them, one after the other.
func code(parts ...any) []api.Instr {
	var out []api.Instr
	for _, x := range parts {
		switch y := x.(type) {
		case int:
			out = append(out, in(y))
		case api.Instr:
			out = append(out, y)
		case []api.Instr:
			out = append(out, y...)
		default:
			panic("no instruction")
		}
	}
	return out
}

// back: puts a number, and returns it: the end of most functions.
func back() []api.Instr { return code(api.OpInt, api.OpRet) }

// perhaps: goes to a, or not, and leaves the stack as it was: two instructions.
func perhaps(a int) []api.Instr { return code(api.OpInt, in(api.OpZero, a)) }

// prog: a program of one function, with something in each other list; its locals are number, text, list, rec(0), any0.
func prog(parts ...any) api.Module {
	return api.Module{
		Recs:    [][]api.Type{{number, rec(1), text}, {}},
		Funcs:   []api.Func{{Ret: number, Locals: []api.Type{number, text, list, rec(0), any0}, Code: code(parts...)}},
		Imports: []api.Import{{Ret: number}, {Ret: han(0)}, {Ret: han(1)}, {Args: []api.Type{number, han(1)}, Ret: number}},
		Ints:    []uint64{0, 7},
		Texts:   []string{"hi"},
	}
}

// with: m, and a function more.
func with(m api.Module, f api.Func) api.Module {
	m.Funcs = append(slices.Clone(m.Funcs), f)
	return m
}

// letters: what the tests write for types.
var letters = map[api.Type]string{
	number: "I", text: "B", list: "L", null: "N", any0: "A", none: "X", rec(0): "R0", rec(1): "R1", han(0): "H0", han(1): "H1", han(2): "H2", han(3): "H3",
}

// line: a Shape as the tests write it: - for what is not Seen, else a type's letter behind the other.
func line(s api.Shape) string {
	if !s.Seen {
		if len(s.Stack) > 0 {
			return fmt.Sprint("not seen, but with ", s.Stack)
		}
		return "-"
	}
	var words []string
	for _, x := range s.Stack {
		word, ok := letters[x]
		if !ok {
			word = fmt.Sprint(x)
		}
		words = append(words, word)
	}
	return strings.Join(words, " ")
}

// lines: a function's Shapes, with commas between.
func lines(shapes []api.Shape) string {
	var out []string
	for _, s := range shapes {
		out = append(out, line(s))
	}
	return strings.Join(out, ", ")
}

// said: all that Check answered, as a text.
func said(maps [][]api.Shape, f, pc int, e api.Errno) string {
	var b strings.Builder
	fmt.Fprintln(&b, len(maps), "functions,", f, pc, e)
	for _, shapes := range maps {
		fmt.Fprintln(&b, len(shapes), lines(shapes))
	}
	return b.String()
}

// comes: that m has these Shapes, function by function, twice, and nothing beside.
func comes(t *testing.T, m api.Module, want ...string) {
	t.Helper()
	for range 2 {
		maps, f, pc, e := Check(m)
		if e != api.OK || f != 0 || pc != 0 || len(maps) != len(want) {
			t.Fatalf("%d %d %d, %d functions, not %d; %+v", e, f, pc, len(maps), len(want), m)
		}
		for n, shapes := range maps {
			if got := lines(shapes); got != want[n] || len(shapes) != len(m.Funcs[n].Code) {
				t.Fatalf("function %d: %s\nnot %s; %+v", n, got, want[n], m)
			}
		}
	}
}

// last: that the Shapes of m's first function end with these.
func last(t *testing.T, m api.Module, want string) {
	t.Helper()
	maps, _, _, e := Check(m)
	if e != api.OK {
		t.Fatalf("%d; %+v", e, m)
	}
	if got := lines(maps[0]); !strings.HasSuffix(", "+got, ", "+want) {
		t.Fatalf("%s does not end with %s; %+v", got, want, m)
	}
}

// fails: that m has no Shapes, and that the place is one of function f.
func fails(t *testing.T, m api.Module, f int) {
	t.Helper()
	maps, gotF, pc, e := Check(m)
	if e != api.ErrType || len(maps) != 0 || gotF != f || pc < 0 || pc >= len(m.Funcs[f].Code) {
		t.Fatalf("%s, not ErrType in function %d; %+v", said(maps, gotF, pc, e), f, m)
	}
}

// refused: that Check has error e, and nothing beside.
func refused(t *testing.T, m api.Module, e api.Errno) {
	t.Helper()
	maps, f, pc, got := Check(m)
	if got != e || len(maps) != 0 || f != 0 || pc != 0 {
		t.Fatalf("%s, not error %d alone; %+v", said(maps, f, pc, got), e, m)
	}
}

// trim: list again, in memory of its own, with n of x in the room behind it.
func trim[T any](list []T, n int, x T) []T {
	return slices.Concat(list, many(n, x))[:len(list)]
}

// again: m in memory of its own, with n things that may not be in the room behind each list.
func again(m api.Module, n int) api.Module {
	out := api.Module{
		Recs: trim(m.Recs, n, many(1, odd)), Funcs: trim(m.Funcs, n, api.Func{Ret: odd}), Imports: trim(m.Imports, n, api.Import{Ret: odd}),
		Ints: trim(m.Ints, n, 79), Texts: trim(m.Texts, n, strings.Repeat("-", 80)),
	}
	for k, fields := range out.Recs {
		out.Recs[k] = trim(fields, n, odd)
	}
	for k, f := range out.Funcs {
		out.Funcs[k] = api.Func{Args: trim(f.Args, n, odd), Ret: f.Ret, Locals: trim(f.Locals, n, odd), Code: trim(f.Code, n, in(api.OpRet))}
	}
	for k, i := range out.Imports {
		out.Imports[k] = api.Import{Args: trim(i.Args, n, odd), Ret: i.Ret}
	}
	return out
}

// dump: all of m, its lists' spare room included, as a text.
func dump(m api.Module) string {
	var b strings.Builder
	for _, fields := range m.Recs[:cap(m.Recs)] {
		fmt.Fprintln(&b, len(fields), fields[:cap(fields)])
	}
	for _, f := range m.Funcs[:cap(m.Funcs)] {
		fmt.Fprintln(&b, len(f.Args), f.Args[:cap(f.Args)], f.Ret, len(f.Locals), f.Locals[:cap(f.Locals)], len(f.Code), f.Code[:cap(f.Code)])
	}
	for _, i := range m.Imports[:cap(m.Imports)] {
		fmt.Fprintln(&b, len(i.Args), i.Args[:cap(i.Args)], i.Ret)
	}
	fmt.Fprintln(&b, len(m.Recs), len(m.Funcs), len(m.Imports), len(m.Ints), m.Ints[:cap(m.Ints)], len(m.Texts))
	fmt.Fprintf(&b, "%q", m.Texts[:cap(m.Texts)])
	return b.String()
}
