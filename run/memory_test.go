package run

import (
	"slices"
	"testing"

	"chrysalis/api"
)

// talking: a program that asks for numbers and handles over and over, and does something to objects.
func talking() api.Module {
	return bare(
		api.Func{Ret: number, Locals: []api.Type{number, list}, Code: code(
			n(3), api.OpInts, in(api.OpSet, 1), in(api.OpHost, askHan), n(7), api.OpSwap, in(api.OpHost, tellMixed), api.OpClose,
			in(api.OpGet, 1), n(1), n(200), in(api.OpCall, 1), api.OpStore, in(api.OpGet, 1), n(1), api.OpLoad, in(api.OpHost, tellOne), api.OpRet)},
		api.Func{Args: []api.Type{number}, Ret: number, Code: code(in(api.OpGet, 0), n(65), in(api.OpHost, tellTwo), in(api.OpHost, tellOne), api.OpRet)},
	)
}

// said: what talking tells of the answers 10, 11, ..
func said() []api.Event {
	return []api.Event{event(askHan), event(tellMixed, 7, 10), event(tellTwo, 200, 65), event(tellOne, 12), event(tellOne, 13)}
}

// fill: every place of list, spare room included, is x.
func fill[T any](list []T, x T) {
	for i := range list[:cap(list)] {
		list[:cap(list)][i] = x
	}
}

// spoil: every place of the lists of told, spare room included, is another one.
func spoil(told []api.Event) {
	for _, e := range told {
		fill(e.Args, 0xcccccccccccccccc)
	}
	fill(told, api.Event{Import: -85, Args: w(1)})
}

// What talks says what the tests below say it does.
func TestTalking(t *testing.T) {
	x := start(t, talking(), 99)
	runs(t, x, 100, upFrom(10, 9), 23, 5, said()...)
	over(t, x, api.Done, 14)
}

// Answers stay as they are, used or not, and so does the room behind them.
func TestAnswersStay(t *testing.T) {
	for many := range 9 {
		room := upFrom(10, 12)
		runs(t, start(t, talking(), 99), 100, room[:many], []int{3, 6, 14, 15, 21, 23, 23, 23, 23}[many], min(many, 5), said()[:min(many, 5)]...)
		if !slices.Equal(room, upFrom(10, 12)) {
			t.Errorf("with %d: %v", many, room)
		}
	}
}

// Whatever becomes of the answers afterwards, what they were used for stays, and so does what was told.
func TestAnswersAreNotKept(t *testing.T) {
	for many := range 6 {
		x := start(t, talking(), 99)
		answers := upFrom(10, many)
		told, _, used := Run(x, 100, answers)
		fill(answers, 0xdddddddddddddddd)
		if used != many || !sameEvents(told, said()[:many]) {
			t.Fatalf("with %d: %v", many, told)
		}
		rest, _, _ := Run(x, 100, upFrom(10+uint64(many), 9))
		if !sameEvents(slices.Concat(told, rest), said()) {
			t.Fatalf("with %d: %v, then %v", many, told, rest)
		}
		over(t, x, api.Done, 14)
	}
}

// Whatever becomes of what was told, the machine goes on as ever, and what it tells is told anew.
func TestEventsAreNewMemory(t *testing.T) {
	for many := range 6 {
		for fuel := range 24 {
			x, other := start(t, talking(), 99), start(t, talking(), 99)
			answers := upFrom(10, many)
			told, _, used := Run(x, fuel, answers)
			again, _, _ := Run(other, fuel, answers)
			before := x.State()
			spoil(told)
			is(t, x, before)
			if !sameEvents(again, said()[:used]) || !slices.Equal(answers, upFrom(10, many)) {
				t.Fatalf("%v; answers %v", again, answers)
			}
			rest, _, _ := Run(x, 100, upFrom(10+uint64(used), 9))
			if !sameEvents(rest, said()[used:]) {
				t.Fatalf("%d of fuel, %d answers: then %v", fuel, many, rest)
			}
			over(t, x, api.Done, 14)
		}
	}
}

// What one event tells is no other one's memory: more behind one's arguments is nothing to the next one's.
func TestEventsShareNothing(t *testing.T) {
	told, _, _ := Run(start(t, talking(), 99), 100, upFrom(10, 9))
	for k := range told {
		_ = append(told[k].Args, 99, 98, 97)
		fill(told[k].Args[:len(told[k].Args):cap(told[k].Args)], 96)
		told[k].Args = slices.Clone(said()[k].Args)
		if !sameEvents(told, said()) {
			t.Fatalf("behind event %d: %v", k, told)
		}
	}
}

// Machines of one program run each for itself, however their turns come.
func TestEachForItself(t *testing.T) {
	a, b, alone := start(t, talking(), 99), start(t, talking(), 99), start(t, talking(), 99)
	runs(t, a, 6, upFrom(10, 9), 6, 1, event(askHan))
	runs(t, b, 100, upFrom(50, 2), 14, 2, event(askHan), event(tellMixed, 7, 50))
	runs(t, a, 100, upFrom(11, 1), 8, 1, event(tellMixed, 7, 10))
	runs(t, b, 100, upFrom(52, 9), 9, 3, event(tellTwo, 200, 65), event(tellOne, 52), event(tellOne, 53))
	runs(t, a, 100, upFrom(12, 9), 9, 3, said()[2:]...)
	runs(t, alone, 100, upFrom(10, 9), 23, 5, said()...)
	over(t, b, api.Done, 54)
	is(t, a, alone.State())
}
