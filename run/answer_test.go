package run

import (
	"math"
	"testing"

	"chrysalis/api"
)

// The first one that asks has the first answer, the next one the next; nobody else has any.
func TestAnswersInOrder(t *testing.T) {
	m := prog(n(2), in(api.OpHost, askNumber), n(3), in(api.OpHost, tellOne), api.OpDup, in(api.OpHost, askNumber), in(api.OpHost, tellTwo), api.OpRet)
	for _, more := range [][]uint64{nil, {9}, {9, 8, 7}} {
		x := start(t, m, 0)
		answers := append(w(50, 60, 70, 80), more...)
		runs(t, x, 100, answers, 8, 4, event(askNumber), event(tellOne, 3), event(askNumber), event(tellTwo, 60, 70))
		over(t, x, api.Done, 80)
	}
	x := start(t, m, 0)
	runs(t, x, 7, w(50, 60, 70, 80), 7, 4, event(askNumber), event(tellOne, 3), event(askNumber), event(tellTwo, 60, 70))
	at(t, x, 7, 2, 50, 60, 80)
}

// An answer is taken as it is, the least and the greatest among them.
func TestAnyAnswer(t *testing.T) {
	m := prog(in(api.OpHost, askNumber), api.OpRet)
	for _, v := range append(ints(), 1<<63, 1<<32, top-1) {
		x := start(t, m, 0)
		runs(t, x, 2, w(v, 13), 2, 1, event(askNumber))
		over(t, x, api.Done, v)
	}
}

// What wants an answer that is not there is not done, however much fuel there is; it goes on once there is one.
func TestNoAnswerLeft(t *testing.T) {
	m := prog(n(2), in(api.OpHost, tellOne), in(api.OpHost, tellOne), n(1), api.OpAdd, in(api.OpHost, tellOne), api.OpRet)
	x := start(t, m, 0)
	runs(t, x, 100, nil, 1, 0)
	for _, fuel := range []int{100, 1, math.MaxInt, 2} {
		for _, answers := range [][]uint64{nil, {}, w(5, 6)[:0]} {
			runs(t, x, fuel, answers, 0, 0)
			at(t, x, 1, 2)
		}
	}
	runs(t, x, 100, w(30), 1, 1, event(tellOne, 2))
	at(t, x, 2, 30)
	runs(t, x, 100, nil, 0, 0)
	at(t, x, 2, 30)
	runs(t, x, 100, w(40), 3, 1, event(tellOne, 30))
	at(t, x, 5, 41)
	runs(t, x, 100, w(50), 2, 1, event(tellOne, 41))
	over(t, x, api.Done, 50)
}

// With so many answers it comes so far.
func TestAsFarAsAnswersGo(t *testing.T) {
	m := prog(in(api.OpHost, askNumber), n(2), in(api.OpHost, tellTwo), in(api.OpHost, tellOne), n(7), in(api.OpHost, tellTwo), api.OpRet)
	all := []api.Event{event(askNumber), event(tellTwo, 20, 2), event(tellOne, 21), event(tellTwo, 22, 7)}
	for many, done := range []int{0, 2, 3, 5, 7, 7} {
		x := start(t, m, 0)
		runs(t, x, 50, upFrom(20, many), done, min(many, 4), all[:min(many, 4)]...)
		if many >= 4 {
			over(t, x, api.Done, 23)
			continue
		}
		if asked, ok := x.Want(); !ok || asked != all[many].Import {
			t.Errorf("with %d answers: it wants %d, %v", many, asked, ok)
		}
	}
}

// Fuel that is used up just ahead of what wants something uses no answer for it.
func TestFuelEndsAtAWant(t *testing.T) {
	m := prog(n(2), in(api.OpHost, tellOne), in(api.OpHost, tellOne), api.OpRet)
	x := start(t, m, 0)
	runs(t, x, 1, w(30, 40), 1, 0)
	at(t, x, 1, 2)
	runs(t, x, 1, w(30, 40), 1, 1, event(tellOne, 2))
	at(t, x, 2, 30)
	runs(t, x, 1, w(40), 1, 1, event(tellOne, 30))
	at(t, x, 3, 40)
	runs(t, x, 1, nil, 1, 0)
	over(t, x, api.Done, 40)
}

// Handles come of answers, and are told by what the host knows them by.
func TestHandles(t *testing.T) {
	m := prog(in(api.OpHost, askHan), in(api.OpHost, askHan), api.OpDup, in(api.OpHost, tellHan), api.OpSwap, in(api.OpHost, tellMixed), api.OpClose, in(api.OpHost, tellHan), api.OpRet)
	x := start(t, m, 0)
	runs(t, x, 100, w(70, 60, 50, 40, 30, 20), 9, 5, event(askHan), event(askHan), event(tellHan, 60), event(tellMixed, 50, 60), event(tellHan, 70))
	over(t, x, api.Done, 30)
	is(t, x, api.State{End: api.Done, Value: 30, Hans: []api.Handle{{Kind: 2, Desc: 70, Open: true}, {Kind: 2, Desc: 60, Open: true}, {Kind: 1, Desc: 40}}})
}

// One that is told of a closed handle wants an answer as ever: without one it is not done, with one it uses it, tells nothing, and ends.
func TestClosedHandle(t *testing.T) {
	m := prog(in(api.OpHost, askHan), api.OpDup, api.OpClose, in(api.OpHost, tellHan), api.OpRet)
	x := start(t, m, 0)
	runs(t, x, 100, w(70), 3, 1, event(askHan))
	at(t, x, 3, 0)
	runs(t, x, 100, nil, 0, 0)
	at(t, x, 3, 0)
	runs(t, x, 100, w(60, 50), 1, 1)
	over(t, x, api.TrapClosed, 0)
}

// One for whose handle there is no room has been told and has used its answer.
func TestNoRoomForAHandle(t *testing.T) {
	m := prog(in(api.OpHost, askHan), api.OpPop, in(api.OpJump, 0), n(0), api.OpRet)
	x := start(t, m, 0)
	var told []api.Event
	for range api.MaxHans + 1 {
		told = append(told, event(askHan))
	}
	runs(t, x, 1000, upFrom(70, api.MaxHans), 3*api.MaxHans, api.MaxHans, told[1:]...)
	at(t, x, 0)
	runs(t, x, 1000, w(60, 50), 1, 1, event(askHan))
	over(t, x, api.TrapQuota, 0)
	x = start(t, m, 0)
	runs(t, x, 1000, upFrom(70, 100), 3*api.MaxHans+1, api.MaxHans+1, told...)
	over(t, x, api.TrapQuota, 0)
}

// What asks for ever has as many answers as there are, and tells as many events.
func TestManyAnswers(t *testing.T) {
	m := prog(in(api.OpGet, 0), in(api.OpHost, tellOne), in(api.OpSet, 0), in(api.OpJump, 0), n(0), api.OpRet)
	answers := upFrom(1, 5000)
	x := start(t, m, 0)
	told, done, used := Run(x, math.MaxInt, answers)
	if done != 4*len(answers)+1 || used != len(answers) || len(told) != len(answers) {
		t.Fatalf("%d done, %d used, %d told", done, used, len(told))
	}
	for k, e := range told {
		if e.Import != tellOne || len(e.Args) != 1 || e.Args[0] != uint64(k) {
			t.Fatalf("event %d: %v", k, e)
		}
	}
	at(t, x, 1, 5000)
}
