package step

import (
	"testing"

	"chrysalis/api"
	"chrysalis/state"
)

// open, closed: handles.
func open(kind int, desc uint64) api.Handle   { return api.Handle{Kind: kind, Desc: desc, Open: true} }
func closed(kind int, desc uint64) api.Handle { return api.Handle{Kind: kind, Desc: desc} }

// asking: a program whose function 1 has this code, and is handed a handle of kind 2 and one of kind 3; and the states in which it has been called so.
func asking(parts ...any) (api.Module, func(hans []api.Handle, two, three uint64) api.State) {
	m := bare(
		api.Func{Ret: number, Code: code(in(api.OpHost, askHan), in(api.OpHost, askOther), in(api.OpCall, 1), api.OpRet)},
		api.Func{Args: []api.Type{han(2), han(3)}, Ret: number, Code: code(parts...)},
	)
	return m, func(hans []api.Handle, two, three uint64) api.State {
		return api.State{Frames: []api.Frame{at(0, 3, nil, nil), at(1, 0, w(two, three), nil)}, Hans: hans, Quota: 100, Used: 40}
	}
}

func TestAnswerIsTheResult(t *testing.T) {
	for _, v := range append(ints(), top-1, 1<<63+1, 16) {
		x := start(t, prog(n(3), in(api.OpHost, askNumber), api.OpRet), 9)
		quiet(t, x)
		tells(t, x, v, askNumber)
		is(t, x, api.State{Frames: []api.Frame{at(0, 2, make([]uint64, 6), w(3, v))}, Quota: 9})
		quiet(t, x)
		over(t, x, api.Done, v, 0)
	}
}

// An answer goes to what asks for one, and to nothing else.
func TestAnswersOfNobody(t *testing.T) {
	x := start(t, prog(n(3), in(api.OpHost, askNumber), api.OpAdd, api.OpRet), 9)
	for _, answer := range w(100, 20, 300, 400) {
		x.Next(answer)
	}
	over(t, x, api.Done, 23, 0)
}

func TestArgumentsAreTold(t *testing.T) {
	x := start(t, prog(n(1), n(200), n(top), in(api.OpHost, tellTwo), api.OpSub, api.OpRet), 0)
	for range 3 {
		wantsNone(t, x)
		quiet(t, x)
	}
	tells(t, x, 3, tellTwo, 200, top)
	is(t, x, api.State{Frames: []api.Frame{at(0, 4, make([]uint64, 6), w(1, 3))}})
	quiet(t, x)
	quiet(t, x)
	over(t, x, api.Done, top-1, 0)
}

// Handles are told by what the host knows them by; numbers that look like one stay as they are.
func TestHandlesAreToldByDesc(t *testing.T) {
	hans := []api.Handle{open(3, 90), open(2, 91), closed(2, 92), open(2, top), open(3, 91), open(0, 95)}
	m, in1 := asking(n(1), in(api.OpGet, 0), in(api.OpGet, 1), n(3), in(api.OpHost, tellMany), api.OpPop, in(api.OpGet, 0), n(0), in(api.OpHost, askFirst), api.OpPop, in(api.OpGet, 0), in(api.OpHost, tellHan), api.OpRet)
	for _, c := range []struct{ two, three, desc2, desc3 uint64 }{{1, 0, 91, 90}, {3, 0, top, 90}, {3, 4, top, 91}, {1, 4, 91, 91}} {
		x := load(t, m, in1(hans, c.two, c.three))
		for range 4 {
			quiet(t, x)
		}
		tells(t, x, 77, tellMany, 1, c.desc2, c.desc3, 3)
		is(t, x, api.State{Frames: []api.Frame{at(0, 3, nil, nil), at(1, 5, w(c.two, c.three), w(6))}, Hans: append(hans[:6:6], open(3, 77)), Quota: 100, Used: 40})
		for range 3 {
			quiet(t, x)
		}
		tells(t, x, 0, askFirst, c.desc2, 0)
		is(t, x, api.State{Frames: []api.Frame{at(0, 3, nil, nil), at(1, 9, w(c.two, c.three), w(7))}, Hans: append(hans[:6:6], open(3, 77), open(0, 0)), Quota: 100, Used: 40})
		quiet(t, x)
		quiet(t, x)
		tells(t, x, 5, tellHan, c.desc2)
		quiet(t, x)
		quiet(t, x)
		s := x.State()
		over(t, x, api.Done, 5, 40)
		if !state.Same(s, api.State{Hans: append(hans[:6:6], open(3, 77), open(0, 0)), Quota: 100, Used: 40, End: api.Done, Value: 5}) {
			t.Error(shown(s))
		}
	}
}

// shut: that the next instruction comes to TrapClosed, telling nothing, with these handles.
func shut(t *testing.T, x *Machine, used int, hans ...api.Handle) {
	t.Helper()
	if told, did := x.Next(6); !did || told != nil {
		t.Fatalf("Next: %v, %v, though a handle is closed", told, did)
	}
	over(t, x, api.TrapClosed, 0, used)
	if s := x.State(); !state.Same(s, api.State{Hans: hans, Quota: s.Quota, Used: used, End: api.TrapClosed}) {
		t.Fatalf("%s; not %v", shown(s), hans)
	}
}

// Each handle among what is told has to be open, whichever it is.
func TestClosedHandlesAreNotTold(t *testing.T) {
	m, in1 := asking(n(1), in(api.OpGet, 0), in(api.OpGet, 1), n(3), in(api.OpHost, tellMany), api.OpPop, n(7), api.OpRet)
	for two := range uint64(4) {
		for three := range uint64(4) {
			hans := []api.Handle{open(2, 20), closed(2, 21), open(2, 0), closed(2, 0), open(3, 30), closed(3, 31), open(3, 0), closed(3, 0)}
			x := load(t, m, in1(hans, two, three+4))
			for range 4 {
				quiet(t, x)
			}
			wants(t, x, tellMany) // closed or not, it asks for it
			if hans[two].Open && hans[three+4].Open {
				tells(t, x, 77, tellMany, 1, hans[two].Desc, hans[three+4].Desc, 3)
				continue
			}
			shut(t, x, 40, hans...)
		}
	}
}

func TestClosedOneAlone(t *testing.T) {
	m, in1 := asking(in(api.OpGet, 0), in(api.OpHost, tellHan), api.OpRet)
	hans := []api.Handle{open(2, 20), closed(2, 21), open(3, 30)}
	x := load(t, m, in1(hans, 1, 2))
	quiet(t, x)
	shut(t, x, 40, hans...)
	x = load(t, m, in1(hans, 0, 2))
	quiet(t, x)
	tells(t, x, 6, tellHan, 20)
}

func TestClose(t *testing.T) {
	m, in1 := asking(in(api.OpGet, 1), in(api.OpGet, 0), api.OpClose, api.OpPop, in(api.OpGet, 1), api.OpClose, in(api.OpGet, 0), api.OpClose, n(7), api.OpRet)
	hans := []api.Handle{open(2, 20), open(3, 30), open(2, 21), closed(1, 10), open(1, 11)}
	x := load(t, m, in1(hans, 2, 1))
	for range 3 {
		wantsNone(t, x)
		quiet(t, x)
	}
	is(t, x, api.State{Frames: []api.Frame{at(0, 3, nil, nil), at(1, 3, w(2, 1), w(1))}, Hans: []api.Handle{open(2, 20), open(3, 30), closed(2, 21), closed(1, 10), open(1, 11)}, Quota: 100, Used: 40})
	for range 4 {
		quiet(t, x)
	}
	last := []api.Handle{open(2, 20), closed(3, 30), closed(2, 21), closed(1, 10), open(1, 11)}
	is(t, x, api.State{Frames: []api.Frame{at(0, 3, nil, nil), at(1, 7, w(2, 1), w(2))}, Hans: last, Quota: 100, Used: 40})
	shut(t, x, 40, last...) // once more
}

func TestCloseOfAClosedOne(t *testing.T) {
	m, in1 := asking(in(api.OpGet, 1), api.OpClose, n(7), api.OpRet)
	hans := []api.Handle{open(2, 20), closed(3, 30), open(3, 31)}
	x := load(t, m, in1(hans, 0, 1))
	quiet(t, x)
	shut(t, x, 40, hans...)
	x = load(t, m, in1(hans, 0, 2))
	goes(t, x, 0)
	over(t, x, api.Done, 7, 40)
}

// What is closed, is closed by whatever name it is held.
func TestClosedForAllWhoHoldIt(t *testing.T) {
	m, in1 := asking(in(api.OpGet, 0), api.OpDup, api.OpClose, in(api.OpHost, tellHan), api.OpRet)
	x := load(t, m, in1([]api.Handle{open(2, 20), open(3, 30), open(2, 20)}, 0, 1))
	for range 3 {
		quiet(t, x)
	}
	shut(t, x, 40, closed(2, 20), open(3, 30), open(2, 20))
}

// A handle goes to a number behind all others, those that are closed among them.
func TestNewHandles(t *testing.T) {
	m := prog(in(api.OpHost, askHan), api.OpDup, api.OpClose, in(api.OpHost, askOther), in(api.OpHost, askHan), n(0), in(api.OpHost, askFirst), n(7), api.OpRet)
	x := start(t, m, 0)
	tells(t, x, top, askHan)
	is(t, x, api.State{Frames: []api.Frame{at(0, 1, make([]uint64, 6), w(0))}, Hans: []api.Handle{open(2, top)}})
	quiet(t, x)
	quiet(t, x)
	tells(t, x, 0, askOther)
	is(t, x, api.State{Frames: []api.Frame{at(0, 4, make([]uint64, 6), w(0, 1))}, Hans: []api.Handle{closed(2, top), open(3, 0)}})
	tells(t, x, top, askHan) // known by the same as one ahead of it
	is(t, x, api.State{Frames: []api.Frame{at(0, 5, make([]uint64, 6), w(0, 1, 2))}, Hans: []api.Handle{closed(2, top), open(3, 0), open(2, top)}})
	quiet(t, x)
	tells(t, x, 1<<63, askFirst, top, 0)
	is(t, x, api.State{Frames: []api.Frame{at(0, 7, make([]uint64, 6), w(0, 1, 3))}, Hans: []api.Handle{closed(2, top), open(3, 0), open(2, top), open(0, 1<<63)}})
	goes(t, x, 0)
	over(t, x, api.Done, 7, 0)
}

// Without room for the handle the event is told all the same.
func TestNoRoomForHandles(t *testing.T) {
	m := prog(in(api.OpHost, askHan), api.OpClose, in(api.OpJump))
	x := start(t, m, 5)
	var hans []api.Handle
	for k := range uint64(api.MaxHans) {
		tells(t, x, k+5, askHan)
		hans = append(hans, closed(2, k+5))
		quiet(t, x)
		quiet(t, x)
		is(t, x, api.State{Frames: []api.Frame{at(0, 0, make([]uint64, 6), nil)}, Hans: hans, Quota: 5})
	}
	tells(t, x, 99, askHan)
	over(t, x, api.TrapQuota, 0, 0)
	if s := x.State(); !state.Same(s, api.State{Hans: hans, Quota: 5, End: api.TrapQuota}) {
		t.Error(shown(s))
	}
}

func TestNoRoomIsAskedForBehindTelling(t *testing.T) {
	m, in1 := asking(in(api.OpGet, 0), n(7), in(api.OpHost, askFirst), api.OpPop, in(api.OpGet, 0), in(api.OpHost, tellHan), api.OpRet)
	for count := api.MaxHans - 2; count <= api.MaxHans; count++ {
		hans := append([]api.Handle{open(2, 20), open(3, 30), closed(2, 40)}, many(count-3, closed(1, 50))...)
		x := load(t, m, in1(hans, 0, 1))
		quiet(t, x)
		quiet(t, x)
		tells(t, x, 60, askFirst, 20, 7)
		if count == api.MaxHans {
			over(t, x, api.TrapQuota, 0, 40)
			continue
		}
		is(t, x, api.State{Frames: []api.Frame{at(0, 3, nil, nil), at(1, 3, w(0, 1), w(uint64(count)))}, Hans: append(hans[:count:count], open(0, 60)), Quota: 100, Used: 40})
		quiet(t, x)
		quiet(t, x)
		tells(t, x, 61, tellHan, 20) // a number needs no room
		x = load(t, m, in1(hans, 2, 1))
		quiet(t, x)
		quiet(t, x)
		shut(t, x, 40, hans...) // closed: ahead of there being room or not
	}
	hans := append([]api.Handle{closed(2, 20), open(3, 30)}, many(14, closed(1, 50))...)
	x := load(t, m, in1(hans, 0, 1))
	quiet(t, x)
	quiet(t, x)
	shut(t, x, 40, hans...)
}

// A number is asked for with as many handles as can be.
func TestNumbersNeedNoRoom(t *testing.T) {
	m, in1 := asking(in(api.OpGet, 0), in(api.OpHost, tellHan), in(api.OpHost, askNumber), api.OpAdd, api.OpRet)
	x := load(t, m, in1(append([]api.Handle{open(2, 20), open(3, 30)}, many(14, open(1, 50))...), 0, 1))
	quiet(t, x)
	tells(t, x, 4, tellHan, 20)
	tells(t, x, 5, askNumber)
	goes(t, x, 0)
	over(t, x, api.Done, 9, 40)
}

// Only what asks is wanted, and asking what is wanted does nothing.
func TestWant(t *testing.T) {
	for asked := range 5 {
		if asked == tellHan || asked == tellMany {
			continue // these need handles: see above
		}
		x := start(t, prog(in(api.OpJump, 2), api.OpRet, in(api.OpHost, asked), api.OpPop, in(api.OpGet, 0), api.OpRet), 7)
		wantsNone(t, x)
		quiet(t, x)
		before := x.State()
		for range 5 {
			wants(t, x, asked)
			is(t, x, before)
		}
		tells(t, x, 3, asked)
		for range 3 {
			wantsNone(t, x)
			quiet(t, x)
		}
		over(t, x, api.Done, 0, 0)
	}
}

// A frame that waits asks for nothing, though an import stands behind its call.
func TestTheLastFrameIsAsked(t *testing.T) {
	m := bare(
		api.Func{Ret: number, Code: code(in(api.OpCall, 1), in(api.OpHost, askNumber), api.OpSub, api.OpRet)},
		api.Func{Ret: number, Code: code(n(3), n(7), in(api.OpHost, tellTwo), api.OpRet)},
	)
	x := start(t, m, 0)
	for range 3 {
		wantsNone(t, x)
		quiet(t, x)
	}
	tells(t, x, 50, tellTwo, 3, 7)
	wantsNone(t, x)
	quiet(t, x)
	tells(t, x, 8, askNumber)
	wantsNone(t, x)
	quiet(t, x)
	quiet(t, x)
	over(t, x, api.Done, 42, 0)
}
