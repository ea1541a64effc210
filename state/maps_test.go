package state

import (
	"math"
	"slices"
	"testing"

	"chrysalis/api"
	"chrysalis/judge"
)

// Of what is not Right nothing is typed, whatever it is, going or at an end.
func TestWhatIsNotRight(t *testing.T) {
	m := world()
	states := []api.State{ended(api.Done, 3), ended(api.TrapDiv, 0), {End: api.TrapNull}, {}}
	for _, frames := range chains() {
		states = append(states, going(frames...))
	}
	spoilt := func(change func([][]api.Shape)) [][]api.Shape {
		maps := checked(t, m)
		change(maps)
		return maps
	}
	maps := checked(t, m)
	for _, wrong := range [][][]api.Shape{
		nil, {}, {nil}, {{}}, make([][]api.Shape, 4), maps[:3], maps[1:], append(slices.Clone(maps), nil), append(slices.Clone(maps), maps[3]),
		spoilt(func(x [][]api.Shape) { x[3] = x[3][:1] }),
		spoilt(func(x [][]api.Shape) { x[2] = x[2][:9] }), // what nobody comes to
		spoilt(func(x [][]api.Shape) { x[0] = append(x[0], api.Shape{}) }),
		spoilt(func(x [][]api.Shape) { x[0][0].Seen = false }),
		spoilt(func(x [][]api.Shape) { x[3][0].Stack = []api.Type{number} }),
		spoilt(func(x [][]api.Shape) { x[2][6].Seen = false }),
		spoilt(func(x [][]api.Shape) { x[2][7].Seen = true }), // an OpDup without anything
		spoilt(func(x [][]api.Shape) { x[2][7].Stack = many(api.MaxStack+1, number) }),
		spoilt(func(x [][]api.Shape) { x[1][9].Stack[3] = number }),
		spoilt(func(x [][]api.Shape) { x[0][5].Stack[1] = any0 }),
		spoilt(func(x [][]api.Shape) { x[3][1].Stack = nil }),
		spoilt(func(x [][]api.Shape) { slices.Reverse(x) }),
		{shapes(", I")},
	} {
		if judge.Right(m, wrong) {
			t.Fatalf("Right: %v", wrong)
		}
		for _, s := range states {
			says(t, false, m, wrong, s)
		}
	}
	says(t, true, m, maps, states[0])
}

// Of a program that can not begin nothing is typed, whatever maps say.
func TestNoProgram(t *testing.T) {
	one := right(t, prog(back()), ", I")
	for _, m := range []api.Module{
		{}, {Funcs: []api.Func{}}, {Funcs: []api.Func{{}}}, bare(), prog(), prog(api.OpText, api.OpRet), prog(in(api.OpInt, 2), api.OpRet),
		bare(api.Func{Ret: any0, Code: back()}), bare(api.Func{Ret: number, Args: []api.Type{number}, Code: back()}), bare(api.Func{Ret: number, Locals: []api.Type{han(1)}, Code: back()}),
	} {
		for _, maps := range [][][]api.Shape{nil, one, {shapes(", B")}, {{}}} {
			for _, s := range []api.State{{}, {End: api.Done}, going(at(0, 0, nil, nil)), going(at(0, 1, nil, w(5))), going(at(0, 0, w(0), nil))} {
				says(t, false, m, maps, s)
			}
		}
	}
}

// It is by these maps that a state is typed, not by the least ones.
func TestMapsThatAreWider(t *testing.T) {
	m := bare(api.Func{Ret: number, Code: code(in(api.OpInt, 1), api.OpText, in(api.OpJump, 3), in(api.OpCall, 0), api.OpRet)})
	least := right(t, m, ", I, I B, I B, I B I")
	wider := right(t, m, ", I, X A, X X, X X I")
	last := at(0, 0, nil, nil)
	for _, n := range numbers() {
		says(t, slices.Contains(fits()[text], n), m, least, going(at(0, 2, nil, w(5, n))))
		says(t, slices.Contains(fits()[any0], n), m, wider, going(at(0, 2, nil, w(5, n))))
		says(t, slices.Contains(fits()[text], n), m, least, going(at(0, 3, nil, w(5, n))))
		says(t, true, m, wider, going(at(0, 3, nil, w(5, n))))
		says(t, slices.Contains(fits()[text], n), m, least, going(at(0, 4, nil, w(5, n)), last))
		says(t, true, m, wider, going(at(0, 4, nil, w(5, n)), last)) // as it stands at the call, not behind it
	}
	wider = right(t, m, ", I, I B, I B, X X I") // what stands behind the call is not asked of what waits
	for _, n := range numbers() {
		says(t, slices.Contains(fits()[text], n), m, wider, going(at(0, 4, nil, w(5, n)), last))
		says(t, true, m, wider, going(at(0, 4, nil, w(5, n, 5))))
	}
}

// What nobody comes to may be said to be Seen; then it is a place as any other.
func TestMapsThatSeeMore(t *testing.T) {
	m := prog(back(), api.OpPop, in(api.OpJump, 3))
	stays := right(t, m, ", I, -, -")
	for line, stack := range map[string][]uint64{", I, I, ": w(9), ", I, H1 R2, H1": w(1, 5), ", I, X X X, X X": w(9, 9, 9), ", I, N A, N": w(0, 7)} {
		maps := right(t, m, line)
		says(t, false, m, stays, going(at(0, 2, nil, stack)))
		says(t, true, m, maps, going(at(0, 2, nil, stack)))
		says(t, false, m, maps, going(at(0, 2, nil, append(stack, 0))))
		says(t, true, m, maps, going(at(0, 3, nil, stack[:len(stack)-1])))
	}
	maps := [][]api.Shape{{{Seen: true}, {Seen: true, Stack: []api.Type{number}}, {Seen: true, Stack: []api.Type{{Kind: math.MinInt, N: math.MaxInt}}}, {Seen: true}}}
	says(t, true, m, maps, going(at(0, 2, nil, w(0))))
	says(t, false, m, maps, going(at(0, 2, nil, w(1))))
}
