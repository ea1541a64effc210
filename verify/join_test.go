package verify

import (
	"fmt"
	"slices"
	"testing"

	"chrysalis/api"
)

// fork: code that goes one of these ways, then rest.
func fork(rest []api.Instr, ways ...[]api.Instr) []api.Instr {
	end := 0 // where rest stands: each way but the last one has two instructions ahead of it and one behind it
	for n, way := range ways {
		end += len(way)
		if n < len(ways)-1 {
			end += 3
		}
	}
	var out []api.Instr
	for n, way := range ways {
		if n == len(ways)-1 {
			return code(out, way, rest)
		}
		out = code(out, perhaps(len(out)+3+len(way)), way, in(api.OpJump, end))
	}
	return rest
}

// moved: list, to stand n instructions further on.
func moved(n int, list []api.Instr) []api.Instr {
	out := slices.Clone(list)
	for k, i := range out {
		if i.Op == api.OpJump || i.Op == api.OpZero {
			out[k].A += n
		}
	}
	return out
}

// orders: all orders of a list.
func orders[T any](list []T) [][]T {
	if len(list) == 0 {
		return [][]T{nil}
	}
	var out [][]T
	for n, x := range list {
		others := append(append([]T{}, list[:n]...), list[n+1:]...)
		for _, tail := range orders(others) {
			out = append(out, append([]T{x}, tail...))
		}
	}
	return out
}

// source: code that puts one type, told by its letter.
type source struct {
	letter string
	code   []api.Instr
}

func sources() []source {
	return []source{
		{"I", code(api.OpInt)}, {"B", code(api.OpText)}, {"L", code(api.OpInt, api.OpInts)}, {"N", code(api.OpNull)}, {"A", code(in(api.OpGet, 4))},
		{"R0", code(in(api.OpGet, 3))}, {"R1", code(in(api.OpNew, 1))}, {"H0", code(in(api.OpHost, 1))}, {"H1", code(in(api.OpHost, 2))},
	}
}

// common: what two types have in common, by their letters.
func common(a, b string) string {
	isRef := map[string]int{"B": 1, "L": 1, "N": 1, "A": 1, "R0": 1, "R1": 1}
	switch {
	case a == b:
		return a
	case isRef[a]+isRef[b] < 2:
		return "X"
	case a == "N":
		return b
	case b == "N":
		return a
	}
	return "A"
}

func TestTwoWays(t *testing.T) {
	counts := map[string]int{}
	for _, a := range sources() {
		for _, b := range sources() {
			want := common(a.letter, b.letter)
			counts[want]++
			last(t, prog(fork(code(api.OpPop, back()), a.code, b.code)), want+", , I")
			last(t, prog(fork(code(api.OpDup, api.OpPop, api.OpPop, back()), a.code, b.code)), fmt.Sprintf("%s, %s %s, %s, , I", want, want, want, want))
			last(t, prog(api.OpInt, moved(1, fork(code(api.OpSwap, api.OpDup, api.OpRet), a.code, b.code))), fmt.Sprintf("I %s, %s I, %s I I", want, want, want)) // what is below stays
		}
	}
	if counts["X"] != 42 || counts["A"] != 23 || counts["N"] != 1 || counts["B"] != 3 {
		t.Errorf("too few of some: %v", counts)
	}
}

func TestTwoWaysWithTheSame(t *testing.T) {
	comes(t, prog(fork(code(api.OpLenB, api.OpRet), code(api.OpText), code(api.OpText))), ", I, , B, , B, I")
	comes(t, prog(fork(code(api.OpClose, back()), code(in(api.OpHost, 1)), code(in(api.OpHost, 1)))), ", I, , H0, , H0, , I")
	comes(t, prog(fork(back(), nil, nil)), ", I, , , I")
}

func TestTwoWaysOfWhichOneStandsForTheOther(t *testing.T) {
	comes(t, prog(fork(code(api.OpLenB, api.OpRet), code(api.OpText), code(api.OpNull))), ", I, , B, , B, I")
	comes(t, prog(fork(code(api.OpLenB, api.OpRet), code(api.OpNull), code(api.OpText))), ", I, , N, , B, I")
	for _, ways := range orders([][]api.Instr{code(in(api.OpGet, 3)), code(api.OpNull)}) {
		last(t, prog(fork(code(in(api.OpField, 0), api.OpRet), ways...)), "R0, I")
	}
	for _, ways := range orders([][]api.Instr{code(in(api.OpGet, 4)), code(api.OpText)}) {
		last(t, prog(fork(code(api.OpIsNull, api.OpRet), ways...)), "A, I")
		fails(t, prog(fork(code(api.OpLenB, api.OpRet), ways...)), 0) // each alone would do, or not
	}
}

func TestTwoReferences(t *testing.T) {
	for _, ways := range orders([][]api.Instr{code(api.OpText), code(in(api.OpGet, 2))}) {
		last(t, prog(fork(code(api.OpIsNull, api.OpRet), ways...)), "A, I")
		last(t, prog(fork(code(in(api.OpSet, 4), back()), ways...)), "A, , I")
		last(t, prog(fork(code(api.OpNull, api.OpSame, api.OpRet), ways...)), "A, A N, I")
		for _, i := range code(api.OpLen, api.OpLenB, in(api.OpSet, 1), in(api.OpSet, 2), api.OpRet, api.OpClose) {
			fails(t, prog(fork(code(i, back()), ways...)), 0)
		}
	}
	for _, ways := range orders([][]api.Instr{code(in(api.OpGet, 3)), code(in(api.OpNew, 1))}) { // two records
		last(t, prog(fork(code(api.OpIsNull, api.OpRet), ways...)), "A, I")
		fails(t, prog(fork(code(in(api.OpField, 0), api.OpRet), ways...)), 0)
	}
}

// What has nothing in common may be left there, moved, doubled and thrown away, and nothing else.
func TestNothingInCommon(t *testing.T) {
	taking := code(in(api.OpSet, 0), in(api.OpSet, 1), in(api.OpSet, 2), in(api.OpSet, 3), in(api.OpSet, 4), in(api.OpZero, 0), in(api.OpCall, 1), api.OpRet, in(api.OpField, 0),
		api.OpInts, api.OpLen, api.OpBytes, api.OpLenB, api.OpIsNull, api.OpClose)
	second := api.Func{Args: []api.Type{any0}, Ret: number, Code: back()}
	apart := [][]api.Instr{code(api.OpInt), code(api.OpText)}
	handles := [][]api.Instr{code(in(api.OpHost, 1)), code(in(api.OpHost, 2))} // either is one, but of no one kind
	for _, pair := range [][][]api.Instr{apart, handles} {
		for _, ways := range orders(pair) {
			last(t, prog(fork(code(api.OpPop, back()), ways...)), "X, , I")
			last(t, prog(fork(back(), ways...)), "X, X I")
			last(t, prog(fork(code(api.OpDup, api.OpSwap, api.OpPop, api.OpPop, back()), ways...)), "X, X X, X X, X, , I")
			for _, i := range taking {
				fails(t, with(prog(fork(code(i, back()), ways...)), second), 0)
			}
			for op := api.OpAdd; op <= api.OpTwist; op++ {
				fails(t, prog(fork(code(api.OpInt, in(op), back()), ways...)), 0)
				fails(t, prog(fork(code(api.OpInt, api.OpSwap, in(op), back()), ways...)), 0)
			}
			fails(t, prog(fork(code(api.OpNull, api.OpSame, api.OpRet), ways...)), 0)
			fails(t, prog(fork(code(in(api.OpNew, 0), back()), code(api.OpInt, api.OpNull, ways[0]), code(api.OpInt, api.OpNull, ways[1]))), 0)
			fails(t, prog(in(api.OpGet, 3), moved(1, fork(code(in(api.OpPut, 0), back()), ways...))), 0)
		}
	}
}

// Each way alone is taken, both together are not.
func TestAnErrorBehindAJoinAlone(t *testing.T) {
	rest := code(api.OpClose, back())
	zero, one := code(in(api.OpHost, 1)), code(in(api.OpHost, 2))
	last(t, prog(fork(rest, zero, zero)), "H0, , I")
	last(t, prog(fork(rest, one, one)), "H1, , I")
	fails(t, prog(fork(rest, zero, one)), 0)
	fails(t, prog(fork(rest, one, zero)), 0)
	fails(t, prog(fork(code(api.OpDup, api.OpPop, rest), one, zero)), 0) // some instructions behind it
	fails(t, with(prog(back()), api.Func{Ret: number, Code: fork(rest, zero, one)}), 1)
}

func TestThreeWays(t *testing.T) {
	n, b, l, i := code(api.OpNull), code(api.OpText), code(in(api.OpGet, 2)), code(api.OpInt)
	for _, x := range []struct {
		ways [][]api.Instr
		want string
	}{
		{[][]api.Instr{n, b, b}, "B"}, {[][]api.Instr{n, n, l}, "L"}, {[][]api.Instr{n, b, l}, "A"}, {[][]api.Instr{b, b, l}, "A"}, {[][]api.Instr{n, b, i}, "X"},
		{[][]api.Instr{b, l, i}, "X"}, {[][]api.Instr{i, i, i}, "I"}, {[][]api.Instr{n, n, n}, "N"}, {[][]api.Instr{n, b, l, i}, "X"}, {[][]api.Instr{n, b, n, l}, "A"},
	} {
		for _, ways := range orders(x.ways) {
			last(t, prog(fork(code(api.OpPop, back()), ways...)), x.want+", , I")
		}
	}
}

func TestSeveralPlacesAtOnce(t *testing.T) {
	i, b, l, n := in(api.OpInt), in(api.OpText), in(api.OpGet, 2), in(api.OpNull)
	last(t, prog(fork(code(api.OpPop, api.OpPop, api.OpRet), code(i, b, n), code(i, n, l))), "I B L, I B, I")
	last(t, prog(fork(code(api.OpPop, api.OpPop, back()), code(b, i), code(l, b))), "A X, A, , I")
	last(t, prog(fork(code(api.OpPop, api.OpPop, api.OpPop, back()), code(b, n, i), code(n, b, b))), "B B X, B B, B, , I")
	last(t, prog(fork(back(), code(i, b, l, n, i, b, l), code(i, l, n, n, n, n, n))), "I A L N X B L, I A L N X B L I")
	last(t, prog(fork(back(), code(n, n, n), code(b, n, n), code(n, l, n), code(n, n, i))), "B L X, B L X I") // each way changes another place
	comes(t, prog(perhaps(5), i, b, in(api.OpJump, 7), b, i, api.OpSwap, api.OpPop, api.OpPop, back()), ", I, , I, I B, , B, X X, X X, X, , I")
}

func TestTwoHeights(t *testing.T) {
	one, two := code(api.OpInt), code(api.OpInt, api.OpInt)
	for _, ways := range [][][]api.Instr{{one, two}, {nil, one}, {nil, two}, {one, one, two}, {many(7, in(api.OpInt)), many(8, in(api.OpInt))}} {
		for _, order := range orders(ways) {
			fails(t, prog(fork(back(), order...)), 0)
			fails(t, prog(fork(code(api.OpRet), order...)), 0)
			fails(t, prog(fork(code(in(api.OpJump, 0)), order...)), 0)
			fails(t, with(prog(back()), api.Func{Ret: number, Code: fork(code(api.OpInt, api.OpRet), order...)}), 1)
		}
	}
	fails(t, prog(api.OpText, moved(1, fork(code(api.OpLenB, api.OpRet), nil, code(api.OpPop, api.OpText, api.OpText)))), 0) // the same top
	fails(t, prog(fork(code(api.OpLenB, api.OpRet), code(api.OpText), code(api.OpInt, api.OpText))), 0)
	fails(t, prog(fork(code(api.OpLenB, api.OpRet), code(api.OpText), code(api.OpText, api.OpInt))), 0) // the same bottom
}

// A way that is never gone has no say.
func TestWaysThatAreNeverGone(t *testing.T) {
	comes(t, prog(api.OpText, in(api.OpJump, 4), api.OpInt, in(api.OpJump, 4), api.OpLenB, api.OpRet), ", B, -, -, B, I")
	comes(t, prog(api.OpText, in(api.OpJump, 6), api.OpInt, api.OpInt, api.OpInt, in(api.OpJump, 6), api.OpLenB, api.OpRet), ", B, -, -, -, -, B, I")
}

// What a join has behind it joins again.
func TestJoinsBehindJoins(t *testing.T) {
	inner := moved(2, fork(nil, code(api.OpNull), code(api.OpText)))
	last(t, prog(fork(code(api.OpLenB, api.OpRet), inner, code(api.OpNull))), "B, , B, I")
	last(t, prog(fork(code(api.OpIsNull, api.OpRet), inner, code(in(api.OpGet, 2)))), "B, , A, I")
	last(t, prog(fork(code(api.OpPop, back()), inner, code(api.OpInt))), "B, , X, , I")
}
