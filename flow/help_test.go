package flow

import (
	"fmt"
	"slices"
	"strings"
	"testing"

	"chrysalis/api"
	"chrysalis/sane"
)

// The types that the tests speak of most.
var (
	number = api.Type{Kind: api.Int}
	text   = api.Type{Kind: api.Bytes}
	list   = api.Type{Kind: api.Ints}
	null   = api.Type{Kind: api.Null}
	any0   = api.Type{Kind: api.Any}
	none   = api.Type{Kind: api.None}
)

// What an instruction may want beside a type, and what it may put of what it took.
var (
	anything  = api.Type{Kind: -1000}
	reference = api.Type{Kind: -1001}
	handle    = api.Type{Kind: -1002}
	lowest    = api.Type{Kind: -1003} // the lowest one that it took
	highest   = api.Type{Kind: -1004} // the highest one
)

// rec: the type of a record.
func rec(n int) api.Type { return api.Type{Kind: api.Rec, N: n} }

// han: the type of a handle.
func han(n int) api.Type { return api.Type{Kind: api.Han, N: n} }

// in: an instruction by its three numbers.
func in(op, a, b int) api.Instr { return api.Instr{Op: op, A: a, B: b} }

// is: types, the last one being the top.
func is(types ...api.Type) []api.Type { return types }

// many: n times x.
func many[T any](n int, x T) []T { return slices.Repeat([]T{x}, n) }

// universe: types of every kind, those that no module can have among them.
func universe() []api.Type {
	out := is(number, text, list, null, any0, none, api.Type{}, api.Type{N: 1}, api.Type{Kind: -1}, api.Type{Kind: 9}, api.Type{Kind: 1 << 62, N: -1 << 63})
	for n := -1; n <= 4; n++ {
		out = append(out, rec(n), han(n))
	}
	for _, k := range []int{api.Int, api.Bytes, api.Ints, api.Null, api.Any, api.None} {
		out = append(out, api.Type{Kind: k, N: 1}, api.Type{Kind: k, N: -2})
	}
	return out
}

// fits: may a be taken where want is wanted? By the words of chapters 4 and 8, taken once more.
func fits(a, want api.Type) bool {
	ref := slices.Contains([]int{2, 3, 4, 6, 7}, a.Kind)
	switch {
	case want == anything:
		return true
	case want == reference, want == any0:
		return ref
	case want == handle:
		return a.Kind == 5
	case want.Kind == 2, want.Kind == 3, want.Kind == 4:
		return a == want || a.Kind == 6
	}
	return a == want
}

// told: what i, an instruction of f, takes and puts, by the chapter's words taken once more.
func told(m api.Module, f api.Func, i api.Instr) (wants, puts []api.Type) {
	lines := []string{
		": Int", ": Bytes", ": Null", ": local", "local :", "anything :", "anything : lowest lowest", "anything anything : highest lowest",
		"Int Int : Int", "Int Int : Int", "Int Int : Int", "Int Int : Int", "Int Int : Int", "Int Int : Int", "Int Int : Int",
		"Int Int : Int", "Int Int : Int", "Int Int : Int", "Int Int : Int", "Int Int : Int", "Int Int : Int", "Int Int : Int",
		"Int Int : Int Int", ":", "Int :", "arguments : result", "own :", "host : back", "fields : Rec", "Rec : field", "Rec field :",
		"Int : Ints", "Ints Int : Int", "Ints Int Int :", "Ints : Int", "Int : Bytes", "Bytes Int : Int", "Bytes Int Int :", "Bytes : Int",
		"reference : Int", "reference reference : Int", "handle :",
	}
	if len(lines) != api.Ops {
		panic("not a line for each instruction")
	}
	mean := map[string]func() []api.Type{
		"local":     func() []api.Type { return is(append(slices.Clone(f.Args), f.Locals...)[i.A]) },
		"arguments": func() []api.Type { return m.Funcs[i.A].Args },
		"result":    func() []api.Type { return is(m.Funcs[i.A].Ret) },
		"own":       func() []api.Type { return is(f.Ret) },
		"host":      func() []api.Type { return m.Imports[i.A].Args },
		"back":      func() []api.Type { return is(m.Imports[i.A].Ret) },
		"fields":    func() []api.Type { return m.Recs[i.A] },
		"field":     func() []api.Type { return is(m.Recs[i.A][i.B]) },
		"Rec":       func() []api.Type { return is(rec(i.A)) },
	}
	plainWords := map[string]api.Type{
		"Int": number, "Ints": list, "Bytes": text, "Null": null,
		"anything": anything, "reference": reference, "handle": handle, "lowest": lowest, "highest": highest,
	}
	side := func(words string) (out []api.Type) {
		for _, w := range strings.Fields(words) {
			if say, ok := mean[w]; ok {
				out = append(out, say()...)
				continue
			}
			x, ok := plainWords[w]
			if !ok {
				panic("no such word: " + w)
			}
			out = append(out, x)
		}
		return out
	}
	left, right, _ := strings.Cut(lines[i.Op], ":")
	return side(left), side(right)
}

// filled: puts, with those that stand for what was taken filled in.
func filled(puts, taken []api.Type) []api.Type {
	out := slices.Clone(puts)
	for k, x := range out {
		switch x {
		case lowest:
			out[k] = taken[0]
		case highest:
			out[k] = taken[len(taken)-1]
		}
	}
	return out
}

// just: types that are wanted, with some for those places where many would do.
func just(wants []api.Type) []api.Type {
	out := slices.Clone(wants)
	for k, x := range out {
		switch x {
		case anything:
			out[k] = is(han(1), none, null)[k]
		case reference:
			out[k] = is(text, rec(2))[k]
		case handle:
			out[k] = han(3)
		}
	}
	return out
}

// on: where i, which is instruction pc, goes on.
func on(i api.Instr, pc int) []int {
	switch i.Op {
	case 26:
		return []int{}
	case 23:
		return []int{i.A}
	case 24:
		return []int{pc + 1, i.A}
	}
	return []int{pc + 1}
}

// wanted: what Flow has to come to, by the chapter's words taken once more.
func wanted(m api.Module, f, pc int, stack []api.Type) ([]api.Type, []int, api.Errno) {
	if sane.Check(m) != api.OK || f < 0 || f > len(m.Funcs)-1 || pc < 0 || pc > len(m.Funcs[f].Code)-1 {
		return nil, nil, api.ErrArg
	}
	i := m.Funcs[f].Code[pc]
	wants, puts := told(m, m.Funcs[f], i)
	if len(stack) < len(wants) {
		return nil, nil, api.ErrType
	}
	below, taken := stack[:len(stack)-len(wants)], stack[len(stack)-len(wants):]
	for k := range wants {
		if !fits(taken[k], wants[k]) {
			return nil, nil, api.ErrType
		}
	}
	after := append(slices.Clone(below), filled(puts, taken)...)
	if len(after) > 8 {
		return nil, nil, api.ErrType
	}
	if i.Op != 23 && i.Op != 26 && pc == len(m.Funcs[f].Code)-1 {
		return nil, nil, api.ErrArg
	}
	return after, on(i, pc), api.OK
}

// place: where the tests put the instruction that they ask for; there are five, and they stand in function 1.
const place = 2

// home: a module with something in each of its lists, no two of them with as many, that has i at its place.
func home(i api.Instr) api.Module {
	ret := in(api.OpRet, 0, 0)
	m := api.Module{
		Recs: [][]api.Type{{number, rec(2), text}, {}, {text, list, any0, han(1), rec(0), number}},
		Funcs: []api.Func{
			{Ret: number, Locals: is(number), Code: []api.Instr{in(api.OpJump, 0, 0)}},
			{Args: is(han(0), rec(1), any0), Ret: rec(2), Locals: is(list, text, number), Code: many(5, ret)},
			{Args: is(number, text, rec(0), han(2)), Ret: han(3), Code: []api.Instr{ret}},
			{Args: is(any0), Ret: any0, Locals: is(any0), Code: []api.Instr{ret, ret}},
		},
		Imports: []api.Import{{Ret: number}, {Args: is(number, han(3)), Ret: han(0)}, {Args: is(han(1), number, han(2), number), Ret: number}, {Ret: han(2)}, {Args: is(number), Ret: number}},
		Ints:    []uint64{0, 1, 2, 3, 1 << 63, ^uint64(0)},
		Texts:   []string{"hi", "", "\x00\xff", "a", "b", "c", strings.Repeat("x", api.MaxText)},
	}
	m.Funcs[1].Code[place] = i
	return m
}

// everyone: each instruction that may stand in home, with each thing that it may name.
func everyone() []api.Instr {
	var out []api.Instr
	for op := range api.Ops {
		for a := range 8 {
			for b := range 6 {
				i := in(op, a, b)
				if sane.Check(home(i)) == api.OK {
					out = append(out, i)
				}
			}
		}
	}
	return out
}

// odd: a type that nothing has, for the room behind lists.
var odd = api.Type{Kind: 77, N: 78}

// comes: that Flow comes to this, twice, changes no stack, and hands out memory of its own.
func comes(t *testing.T, m api.Module, f, pc int, stack, after []api.Type, next []int, e api.Errno) {
	t.Helper()
	const room = 6
	mine := trim(stack, room, odd)
	for range 2 {
		gotAfter, gotNext, got := Flow(m, f, pc, mine)
		if !slices.Equal(gotAfter, after) || !slices.Equal(gotNext, next) || got != e {
			t.Fatalf("Flow(.., %d, %d, %v): %v, %v, %d, not %v, %v, %d; %+v", f, pc, stack, gotAfter, gotNext, got, after, next, e, m)
		}
		if whole := mine[:len(stack)+room]; !slices.Equal(whole, append(slices.Clone(stack), many(room, odd)...)) {
			t.Fatalf("Flow(.., %d, %d, %v) has made of it, and of the room behind it, %v", f, pc, stack, whole)
		}
		scribble(gotAfter, api.Type{Kind: 88})
		scribble(gotNext, 99)
	}
}

// scribble: writes over a list, and the room behind it.
func scribble[T any](list []T, x T) {
	list = list[:cap(list)]
	for k := range list {
		list[k] = x
	}
}

// at: that i at home comes to this stack, and goes on as it does.
func at(t *testing.T, i api.Instr, stack, after []api.Type) {
	t.Helper()
	comes(t, home(i), 1, place, stack, after, on(i, place), api.OK)
}

// fails: that i at home comes to this error.
func fails(t *testing.T, i api.Instr, stack []api.Type, e api.Errno) {
	t.Helper()
	comes(t, home(i), 1, place, stack, nil, nil, e)
}

// trim: list again, in memory of its own, with n of x in the room behind it.
func trim[T any](list []T, n int, x T) []T {
	return slices.Concat(list, many(n, x))[:len(list)]
}

// again: m in memory of its own, with n things that may not be in the room behind each list.
func again(m api.Module, n int) api.Module {
	out := api.Module{
		Recs: trim(m.Recs, n, is(odd)), Funcs: trim(m.Funcs, n, api.Func{Ret: odd}), Imports: trim(m.Imports, n, api.Import{Ret: odd}),
		Ints: trim(m.Ints, n, 79), Texts: trim(m.Texts, n, strings.Repeat("-", 80)),
	}
	for k, fields := range out.Recs {
		out.Recs[k] = trim(fields, n, odd)
	}
	for k, f := range out.Funcs {
		out.Funcs[k] = api.Func{Args: trim(f.Args, n, odd), Ret: f.Ret, Locals: trim(f.Locals, n, odd), Code: trim(f.Code, n, in(api.OpRet, 0, 0))}
	}
	for k, i := range out.Imports {
		out.Imports[k] = api.Import{Args: trim(i.Args, n, odd), Ret: i.Ret}
	}
	return out
}

// dump: all of m, its lists' spare room included, as a text.
func dump(m api.Module) string {
	var b strings.Builder
	for _, fields := range m.Recs[:cap(m.Recs)] {
		fmt.Fprintln(&b, len(fields), fields[:cap(fields)])
	}
	for _, f := range m.Funcs[:cap(m.Funcs)] {
		fmt.Fprintln(&b, len(f.Args), f.Args[:cap(f.Args)], f.Ret, len(f.Locals), f.Locals[:cap(f.Locals)], len(f.Code), f.Code[:cap(f.Code)])
	}
	for _, i := range m.Imports[:cap(m.Imports)] {
		fmt.Fprintln(&b, len(i.Args), i.Args[:cap(i.Args)], i.Ret)
	}
	fmt.Fprintln(&b, len(m.Recs), len(m.Funcs), len(m.Imports), len(m.Ints), m.Ints[:cap(m.Ints)], len(m.Texts))
	fmt.Fprintf(&b, "%q", m.Texts[:cap(m.Texts)])
	return b.String()
}
