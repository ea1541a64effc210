package run

import (
	"math"
	"slices"
	"testing"

	"chrysalis/api"
	"chrysalis/step"
)

// Without fuel nothing is done, wherever it stands, whatever it wants, and whatever the answers are.
func TestNoFuel(t *testing.T) {
	m := prog(n(3), in(api.OpHost, tellOne), in(api.OpHost, askHan), in(api.OpHost, tellHan), api.OpAdd, n(0), api.OpDiv, api.OpRet)
	x := start(t, m, 9)
	for s := x.State(); s.End == api.Going; s = x.State() {
		for _, fuel := range []int{0, -1, -2, math.MinInt, math.MinInt32} {
			for _, answers := range [][]uint64{nil, {}, {5}, {5, 6, 7}} {
				runs(t, x, fuel, answers, 0, 0)
				is(t, x, s)
			}
		}
		x.Next(40)
	}
	over(t, x, api.TrapDiv, 0)
}

// There is nobody that goes on.
func TestNobody(t *testing.T) {
	for _, fuel := range []int{0, 1, 100, math.MaxInt, -1, math.MinInt} {
		for _, answers := range [][]uint64{nil, {}, {5}, {5, 6, 7}} {
			runs(t, nil, fuel, answers, 0, 0)
			runs(t, &step.Machine{}, fuel, answers, 0, 0)
		}
	}
	if told, _, _ := Run(nil, 3, w(1)); len(told) > 0 {
		t.Error(told)
	}
}

// Each instruction counts, the one that comes to the end among them; what stands behind the end does not.
func TestUpToTheEnd(t *testing.T) {
	m := prog(n(3), n(7), api.OpAdd, in(api.OpJump, 5), n(200), n(2), api.OpMul, api.OpRet)
	for _, fuel := range []int{7, 8, 9, 1000, math.MaxInt32, math.MaxInt} {
		for _, answers := range [][]uint64{nil, {5, 6}} { // nobody wants one
			x := start(t, m, 9)
			runs(t, x, fuel, answers, 7, 0)
			over(t, x, api.Done, 20)
		}
	}
}

// As many as fuel, and no more; the rest is done by the next one.
func TestAsManyAsFuel(t *testing.T) {
	m := prog(n(3), n(7), api.OpAdd, in(api.OpJump, 5), n(200), n(2), api.OpMul, api.OpRet)
	stands := []struct {
		pc    int
		stack []uint64
	}{{0, nil}, {1, w(3)}, {2, w(3, 7)}, {3, w(10)}, {5, w(10)}, {6, w(10, 2)}, {7, w(20)}}
	for fuel, stand := range stands {
		x := start(t, m, 9)
		runs(t, x, fuel, nil, fuel, 0)
		at(t, x, stand.pc, stand.stack...)
		runs(t, x, 100, nil, 7-fuel, 0)
		over(t, x, api.Done, 20)
	}
}

// What goes on for ever is held by its fuel alone.
func TestForEver(t *testing.T) {
	m := prog(in(api.OpGet, 0), n(1), api.OpAdd, in(api.OpSet, 0), in(api.OpJump, 0), n(0), api.OpRet)
	x := start(t, m, 0)
	all := uint64(0)
	for _, rounds := range []int{1, 2, 100, 20000} {
		runs(t, x, 5*rounds, w(9), 5*rounds, 0)
		all += uint64(rounds)
		at(t, x, 0)
		if got := x.State().Frames[0].Locals[0]; got != all {
			t.Fatalf("%d rounds, not %d", got, all)
		}
	}
	for fuel := range 12 {
		x := start(t, m, 0)
		runs(t, x, fuel, nil, fuel, 0)
		if pc := x.State().Frames[0].PC; pc != fuel%5 {
			t.Errorf("at %d behind %d", pc, fuel)
		}
	}
}

// Instructions of all frames count, calls and returns among them.
func TestCallsCount(t *testing.T) {
	m := bare(
		api.Func{Ret: number, Code: code(n(3), in(api.OpCall, 1), n(1), in(api.OpCall, 1), api.OpAdd, api.OpRet)},
		api.Func{Args: []api.Type{number}, Ret: number, Code: code(in(api.OpGet, 0), in(api.OpHost, tellOne), in(api.OpCall, 2), api.OpAdd, api.OpRet)},
		api.Func{Ret: number, Code: code(in(api.OpHost, askNumber), api.OpRet)},
	)
	x := start(t, m, 9)
	runs(t, x, 100, w(10, 20, 30, 40, 50), 20, 4, event(tellOne, 3), event(askNumber), event(tellOne, 1), event(askNumber))
	over(t, x, api.Done, 100)
	for fuel := range 20 {
		x := start(t, m, 9)
		if _, done, _ := Run(x, fuel, w(10, 20, 30, 40, 50)); done != fuel || x.State().End != api.Going {
			t.Errorf("%d done of %d", done, fuel)
		}
	}
}

// A trap is an end: the instruction that comes to it is done, and what was told ahead of it is told.
func TestTraps(t *testing.T) {
	for _, c := range []struct {
		end, done, used, told int // of a handle that is closed the last answer is used, though nothing is told
		parts                 []any
	}{
		{api.TrapDiv, 5, 1, 1, []any{n(1), n(0), api.OpDiv}},
		{api.TrapBounds, 4, 1, 1, []any{n(65), api.OpInts, api.OpLen}},
		{api.TrapNull, 4, 1, 1, []any{in(api.OpGet, 3), in(api.OpField, 0, 0)}},
		{api.TrapQuota, 4, 1, 1, []any{n(7), api.OpInts, api.OpLen}},
		{api.TrapDepth, 3 * api.MaxDepth, api.MaxDepth, api.MaxDepth, []any{in(api.OpCall, 0)}},
		{api.TrapClosed, 6, 3, 2, []any{in(api.OpHost, askHan), api.OpDup, api.OpClose, in(api.OpHost, tellHan)}},
	} {
		m := prog(n(200), in(api.OpHost, tellOne), code(c.parts...), api.OpPop, n(7), api.OpRet)
		told := slices.Repeat([]api.Event{event(tellOne, 200)}, c.told)
		if c.end == api.TrapClosed {
			told[1] = event(askHan)
		}
		for _, fuel := range []int{c.done, c.done + 1, math.MaxInt} {
			x := start(t, m, 60)
			runs(t, x, fuel, upFrom(10, 20), c.done, c.used, told...)
			over(t, x, c.end, 0)
		}
		x := start(t, m, 60)
		if _, done, _ := Run(x, c.done-1, upFrom(10, 20)); done != c.done-1 || x.State().End != api.Going {
			t.Errorf("to %d: %d done, %+v", c.end, done, x.State())
		}
		if _, done, _ := Run(x, 9, upFrom(10, 20)); done != 1 {
			t.Errorf("to %d: %d done at last", c.end, done)
		}
		over(t, x, c.end, 0)
	}
}
