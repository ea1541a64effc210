package judge

import (
	"fmt"
	"slices"
	"strconv"
	"strings"
	"testing"

	"chrysalis/api"
)

// The types that the tests speak of most.
var (
	number = api.Type{Kind: api.Int}
	text   = api.Type{Kind: api.Bytes}
	list   = api.Type{Kind: api.Ints}
	null   = api.Type{Kind: api.Null}
	any0   = api.Type{Kind: api.Any}
	none   = api.Type{Kind: api.None}
	odd    = api.Type{Kind: 77, N: 78} // nothing has it: for the room behind lists
)

// rec: the type of a record.
func rec(n int) api.Type { return api.Type{Kind: api.Rec, N: n} }

// han: the type of a handle.
func han(n int) api.Type { return api.Type{Kind: api.Han, N: n} }

// in: an instruction; numbers that are not told are 0.
func in(op int, numbers ...int) api.Instr {
	numbers = append(numbers, 0, 0)
	return api.Instr{Op: op, A: numbers[0], B: numbers[1]}
}

// many: n times x.
func many[T any](n int, x T) []T { return slices.Repeat([]T{x}, n) }

// code: instructions and lists of them, one after the other.
func code(parts ...any) []api.Instr {
	var out []api.Instr
	for _, x := range parts {
		switch y := x.(type) {
		case int:
			out = append(out, in(y))
		case api.Instr:
			out = append(out, y)
		case []api.Instr:
			out = append(out, y...)
		default:
			panic("no instruction")
		}
	}
	return out
}

// back: puts a number, and returns it: the end of most functions.
func back() []api.Instr { return code(api.OpInt, api.OpRet) }

// perhaps: goes to a, or not, and leaves the stack as it was: two instructions.
func perhaps(a int) []api.Instr { return code(api.OpInt, in(api.OpZero, a)) }

// prog: a program of one function, with something in each other list; its locals are number, text, list, rec(0), any0.
func prog(parts ...any) api.Module {
	return api.Module{
		Recs:    [][]api.Type{{number, rec(1), text}, {}},
		Funcs:   []api.Func{{Ret: number, Locals: []api.Type{number, text, list, rec(0), any0}, Code: code(parts...)}},
		Imports: []api.Import{{Ret: number}, {Ret: han(0)}, {Ret: han(1)}, {Args: []api.Type{number, han(1)}, Ret: number}},
		Ints:    []uint64{0, 7},
		Texts:   []string{"hi"},
	}
}

// with: m, and a function more.
func with(m api.Module, f api.Func) api.Module {
	m.Funcs = append(slices.Clone(m.Funcs), f)
	return m
}

// letters: what the tests write for kinds; Q is of none that there is. An N that is not 0 stands behind.
const letters = "?IBLRHNAXQ"

// typed: the type of a word.
func typed(word string) api.Type {
	k := strings.Index(letters, word[:1])
	if k < 1 {
		panic("no letter: " + word)
	}
	if len(word) == 1 {
		return api.Type{Kind: k}
	}
	n, err := strconv.Atoi(word[1:])
	if err != nil {
		panic(err)
	}
	return api.Type{Kind: k, N: n}
}

// types: the types of words, in a list of their own.
func types(words string) []api.Type {
	var out []api.Type
	for _, word := range strings.Fields(words) {
		out = append(out, typed(word))
	}
	return out
}

// shapes: a function's Shapes, from words with commas between: - ahead of what is not Seen.
func shapes(line string) []api.Shape {
	var out []api.Shape
	for _, words := range strings.Split(line, ",") {
		words, unseen := strings.CutPrefix(strings.TrimSpace(words), "-")
		out = append(out, api.Shape{Seen: !unseen, Stack: types(words)})
	}
	return out
}

// all: Shapes of several functions.
func all(lines []string) [][]api.Shape {
	var out [][]api.Shape
	for _, line := range lines {
		out = append(out, shapes(line))
	}
	return out
}

// line: what shapes reads, of Shapes.
func line(list []api.Shape) string {
	var out []string
	for _, s := range list {
		var words []string
		if !s.Seen {
			words = append(words, "-")
		}
		for _, x := range s.Stack {
			word := fmt.Sprint(x)
			if x.Kind > 0 && x.Kind < len(letters) {
				word = letters[x.Kind : x.Kind+1]
				if x.N != 0 {
					word += strconv.Itoa(x.N)
				}
			}
			words = append(words, word)
		}
		out = append(out, strings.Join(words, " "))
	}
	return strings.Join(out, ", ")
}

// answers: that Right says so, twice.
func answers(t *testing.T, want bool, m api.Module, maps [][]api.Shape) {
	t.Helper()
	for range 2 {
		if got := Right(m, maps); got != want {
			var lines []string
			for _, list := range maps {
				lines = append(lines, line(list))
			}
			t.Fatalf("Right: %v of %q; %+v", got, lines, m)
		}
	}
}

// right: that these lines are Right of m, function by function.
func right(t *testing.T, m api.Module, lines ...string) {
	t.Helper()
	answers(t, true, m, all(lines))
}

// wrong: that they are not.
func wrong(t *testing.T, m api.Module, lines ...string) {
	t.Helper()
	answers(t, false, m, all(lines))
}

// trim: list again, in memory of its own, with n of x in the room behind it.
func trim[T any](list []T, n int, x T) []T {
	return slices.Concat(list, many(n, x))[:len(list)]
}

// again: m in memory of its own, with n things that may not be in the room behind each list.
func again(m api.Module, n int) api.Module {
	out := api.Module{
		Recs: trim(m.Recs, n, many(1, odd)), Funcs: trim(m.Funcs, n, api.Func{Ret: odd}), Imports: trim(m.Imports, n, api.Import{Ret: odd}),
		Ints: trim(m.Ints, n, 79), Texts: trim(m.Texts, n, strings.Repeat("-", 80)),
	}
	for k, fields := range out.Recs {
		out.Recs[k] = trim(fields, n, odd)
	}
	for k, f := range out.Funcs {
		out.Funcs[k] = api.Func{Args: trim(f.Args, n, odd), Ret: f.Ret, Locals: trim(f.Locals, n, odd), Code: trim(f.Code, n, in(api.OpRet))}
	}
	for k, i := range out.Imports {
		out.Imports[k] = api.Import{Args: trim(i.Args, n, odd), Ret: i.Ret}
	}
	return out
}

// copied: maps in memory of their own, with n things that may not be in the room behind each list.
func copied(maps [][]api.Shape, n int) [][]api.Shape {
	out := trim(maps, n, many(1, api.Shape{}))
	for f, list := range out {
		out[f] = trim(list, n, api.Shape{Stack: many(api.MaxStack+1, odd)})
		for pc, s := range list {
			out[f][pc].Stack = trim(s.Stack, n, odd)
		}
	}
	return out
}
