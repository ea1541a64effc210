package sane

import (
	"fmt"
	"slices"
	"strings"
	"testing"

	"chrysalis/api"
	"chrysalis/module"
)

// The types that the tests speak of most.
var (
	number = api.Type{Kind: api.Int}
	text   = api.Type{Kind: api.Bytes}
	list   = api.Type{Kind: api.Ints}
	any0   = api.Type{Kind: api.Any}
)

// rec: the type of a record.
func rec(n int) api.Type { return api.Type{Kind: api.Rec, N: n} }

// han: the type of a handle.
func han(n int) api.Type { return api.Type{Kind: api.Han, N: n} }

// in: an instruction by its three numbers.
func in(op, a, b int) api.Instr { return api.Instr{Op: op, A: a, B: b} }

// many: n times x.
func many[T any](n int, x T) []T { return slices.Repeat([]T{x}, n) }

// goodTypes: each type that may stand in a module with so many records.
func goodTypes(recs int) []api.Type {
	out := []api.Type{number, text, list, any0}
	for n := range recs {
		out = append(out, rec(n))
	}
	for n := range api.MaxKinds {
		out = append(out, han(n))
	}
	return out
}

// tiny: a module with as little as may be.
func tiny(code ...api.Instr) api.Module {
	if len(code) == 0 {
		code = []api.Instr{in(api.OpRet, 0, 0)}
	}
	return api.Module{Funcs: []api.Func{{Ret: number, Code: code}}}
}

// rich: a module with something in each of its lists, which hangs together; no two of its lists have as many.
func rich() api.Module {
	return api.Module{
		Recs:    [][]api.Type{{number, rec(2)}, {}, {text, list, any0, han(1), rec(0)}},
		Funcs:   []api.Func{richFirst(), richSecond(), richThird(), richThird()},
		Imports: []api.Import{{Ret: number}, {Args: []api.Type{number, han(3)}, Ret: han(0)}, {Args: many(4, han(1)), Ret: number}, {Args: many(3, number), Ret: han(3)}, {Ret: han(2)}},
		Ints:    []uint64{0, 1, 2, 3, 1 << 63, ^uint64(0)},
		Texts:   []string{"hi", "", "\x00\xff", "a", "b", "c", strings.Repeat("x", api.MaxText)},
	}
}

// richFirst: a function with each instruction that there is, once and once more with the last thing that it may name.
func richFirst() api.Func {
	f := api.Func{Ret: number, Locals: many(8, number)}
	for op := range api.Ops {
		f.Code = append(f.Code, in(op, 0, 0))
	}
	last := []api.Instr{
		in(api.OpInt, 5, 0), in(api.OpText, 6, 0), in(api.OpGet, 7, 0), in(api.OpSet, 7, 0), in(api.OpJump, 52, 0), in(api.OpZero, 52, 0),
		in(api.OpCall, 3, 0), in(api.OpHost, 4, 0), in(api.OpNew, 2, 0), in(api.OpField, 2, 4), in(api.OpPut, 0, 1),
	}
	f.Code = append(f.Code, last...) // 53 instructions
	return f
}

// richSecond: a function whose arguments are handles, among others.
func richSecond() api.Func {
	return api.Func{Args: []api.Type{han(0), rec(1), han(3)}, Ret: han(2), Locals: []api.Type{any0, list}, Code: []api.Instr{
		in(api.OpGet, 4, 0), in(api.OpSet, 0, 0), in(api.OpJump, 9, 0), in(api.OpZero, 3, 0), in(api.OpHost, 1, 0),
		in(api.OpPut, 2, 3), in(api.OpAdd, 0, 0), in(api.OpNew, 1, 0), in(api.OpCall, 1, 0), in(api.OpRet, 0, 0),
	}}
}

// richThird: a function without anything but an argument and code.
func richThird() api.Func {
	return api.Func{Args: []api.Type{text}, Ret: rec(2), Code: []api.Instr{in(api.OpGet, 0, 0), in(api.OpZero, 0, 0), in(api.OpJump, 1, 0)}}
}

// comes: that Check comes to e, and that Main is false beside an error.
func comes(t *testing.T, m api.Module, e api.Errno) {
	t.Helper()
	if got := Check(m); got != e {
		t.Fatalf("Check(%+v): %d, not %d", m, got, e)
	}
	if e != api.OK && Main(m) {
		t.Fatalf("Main(%+v), whose Check is %d", m, e)
	}
}

// orArg: the error of what is there, or is not.
func orArg(there bool) api.Errno {
	if there {
		return api.OK
	}
	return api.ErrArg
}

// trim: list again, in memory of its own, with n of x in the room behind it.
func trim[T any](list []T, n int, x T) []T {
	return slices.Concat(list, many(n, x))[:len(list)]
}

// again: m in memory of its own, with n things that may not be in the room behind each list.
func again(m api.Module, n int) api.Module {
	spare := api.Type{Kind: 77, N: 78}
	out := api.Module{
		Recs: trim(m.Recs, n, []api.Type{spare}), Funcs: trim(m.Funcs, n, api.Func{Ret: spare}), Imports: trim(m.Imports, n, api.Import{Ret: spare}),
		Ints: trim(m.Ints, n, 79), Texts: trim(m.Texts, n, strings.Repeat("-", 80)),
	}
	for k, fields := range out.Recs {
		out.Recs[k] = trim(fields, n, spare)
	}
	for k, f := range out.Funcs {
		out.Funcs[k] = api.Func{Args: trim(f.Args, n, spare), Ret: f.Ret, Locals: trim(f.Locals, n, han(0)), Code: trim(f.Code, n, in(api.OpInt, 255, 255))}
	}
	for k, i := range out.Imports {
		out.Imports[k] = api.Import{Args: trim(i.Args, n, text), Ret: i.Ret}
	}
	return out
}

// dump: all of m, its lists' spare room included, as a text.
func dump(m api.Module) string {
	var b strings.Builder
	for _, fields := range m.Recs[:cap(m.Recs)] {
		fmt.Fprintln(&b, len(fields), fields[:cap(fields)])
	}
	for _, f := range m.Funcs[:cap(m.Funcs)] {
		fmt.Fprintln(&b, len(f.Args), f.Args[:cap(f.Args)], f.Ret, len(f.Locals), f.Locals[:cap(f.Locals)], len(f.Code), f.Code[:cap(f.Code)])
	}
	for _, i := range m.Imports[:cap(m.Imports)] {
		fmt.Fprintln(&b, len(i.Args), i.Args[:cap(i.Args)], i.Ret)
	}
	fmt.Fprintln(&b, len(m.Recs), len(m.Funcs), len(m.Imports), len(m.Ints), m.Ints[:cap(m.Ints)], len(m.Texts))
	fmt.Fprintf(&b, "%q", m.Texts[:cap(m.Texts)])
	return b.String()
}

// names: how many there are of what an instruction of f names by A; -1, if it names nothing.
func names(m api.Module, f api.Func, op int) int {
	counts := map[int]int{
		0: len(m.Ints), 1: len(m.Texts), 3: len(f.Args) + len(f.Locals), 4: len(f.Args) + len(f.Locals), 23: len(f.Code), 24: len(f.Code),
		25: len(m.Funcs), 27: len(m.Imports), 28: len(m.Recs), 29: len(m.Recs), 30: len(m.Recs),
	}
	if n, ok := counts[op]; ok {
		return n
	}
	return -1
}

// wanted: what Check has to come to, by the chapter's words taken once more.
func wanted(m api.Module) api.Errno {
	if _, e := module.Encode(m); e != api.OK {
		return e
	}
	for _, f := range m.Funcs {
		for _, i := range f.Code {
			n := names(m, f, i.Op)
			two := i.Op == 29 || i.Op == 30
			if n >= 0 && i.A > n-1 || two && i.B > len(m.Recs[i.A])-1 {
				return api.ErrArg
			}
		}
		for _, t := range f.Locals {
			if t.Kind == 5 {
				return api.ErrArg
			}
		}
	}
	for _, i := range m.Imports {
		for _, t := range append([]api.Type{i.Ret}, i.Args...) {
			if t.Kind != 1 && t.Kind != 5 {
				return api.ErrArg
			}
		}
	}
	return api.OK
}
