package step

import (
	"testing"

	"chrysalis/api"
)

// calls: a program whose functions call each other.
// Function 1 takes a number, a text and a handle, and has two locals; function 2 has nothing; function 3 answers what it takes; function 4 calls itself.
func calls(parts ...any) api.Module {
	return bare(
		api.Func{Ret: number, Locals: []api.Type{number, any0}, Code: code(parts...)},
		api.Func{Args: []api.Type{number, text, han(2)}, Ret: number, Locals: []api.Type{number, text}, Code: code(in(api.OpGet, 0), in(api.OpSet, 3), n(1), in(api.OpGet, 0), in(api.OpCall, 3), api.OpAdd, api.OpRet)},
		api.Func{Ret: text, Code: code(api.OpNull, api.OpRet)},
		api.Func{Args: []api.Type{number}, Ret: number, Code: code(in(api.OpGet, 0), api.OpRet)},
		api.Func{Args: []api.Type{number, number, number, number}, Ret: number, Locals: many(4, text), Code: code(n(2), n(3), in(api.OpGet, 3), in(api.OpGet, 2), in(api.OpGet, 1), in(api.OpGet, 0), in(api.OpCall, 4), api.OpAdd, api.OpRet)},
	)
}

func TestCallAndBack(t *testing.T) {
	m := calls(n(200), n(7), api.OpText, in(api.OpHost, askHan), in(api.OpCall, 1), api.OpAdd, api.OpRet)
	x := start(t, m, 1000)
	quiet(t, x)
	quiet(t, x)
	quiet(t, x)
	tells(t, x, 33, askHan)
	s := api.State{Frames: []api.Frame{at(0, 4, w(0, 0), w(200, 7, 1, 0))}, Heap: []api.Obj{bytesOf("hi")}, Hans: []api.Handle{{Kind: 2, Desc: 33, Open: true}}, Quota: 1000, Used: 18}
	is(t, x, s)
	quiet(t, x)
	s.Frames = []api.Frame{at(0, 5, w(0, 0), w(200)), at(1, 0, w(7, 1, 0, 0, 0), nil)}
	is(t, x, s)
	for range 4 {
		quiet(t, x)
	}
	s.Frames = []api.Frame{at(0, 5, w(0, 0), w(200)), at(1, 4, w(7, 1, 0, 7, 0), w(1, 7))}
	is(t, x, s)
	quiet(t, x)
	s.Frames = []api.Frame{at(0, 5, w(0, 0), w(200)), at(1, 5, w(7, 1, 0, 7, 0), w(1)), at(3, 0, w(7), nil)}
	is(t, x, s)
	quiet(t, x)
	s.Frames[2] = at(3, 1, w(7), w(7))
	is(t, x, s)
	quiet(t, x)
	s.Frames = []api.Frame{at(0, 5, w(0, 0), w(200)), at(1, 5, w(7, 1, 0, 7, 0), w(1, 7))}
	is(t, x, s)
	quiet(t, x)
	quiet(t, x)
	s.Frames = []api.Frame{at(0, 5, w(0, 0), w(200, 8))}
	is(t, x, s)
	quiet(t, x)
	quiet(t, x)
	over(t, x, api.Done, 208, 18)
}

// Each call's locals are new 0s, whatever one ahead of it left there.
func TestLocalsOfEachCallAreNew(t *testing.T) {
	m := bare(
		api.Func{Ret: number, Code: code(in(api.OpCall, 1), in(api.OpCall, 1), api.OpAdd, in(api.OpCall, 1), api.OpAdd, api.OpRet)},
		api.Func{Ret: number, Locals: []api.Type{number, number}, Code: code(in(api.OpGet, 0), in(api.OpGet, 1), api.OpAdd, n(7), in(api.OpSet, 0), n(200), in(api.OpSet, 1), n(1), api.OpAdd, api.OpRet)},
	)
	x := start(t, m, 0)
	goes(t, x, 0)
	over(t, x, api.Done, 3, 0)
}

// What a function does to its arguments is nothing to the one that called it.
func TestArgumentsAreTheFunctionsOwn(t *testing.T) {
	m := bare(
		api.Func{Ret: number, Locals: []api.Type{number}, Code: code(n(3), in(api.OpSet, 0), n(7), in(api.OpGet, 0), in(api.OpCall, 1), api.OpPop, in(api.OpGet, 0), api.OpAdd, api.OpRet)},
		api.Func{Args: []api.Type{number}, Ret: number, Code: code(n(200), in(api.OpSet, 0), n(1), n(2), api.OpRet)},
	)
	x := start(t, m, 0)
	goes(t, x, 0)
	over(t, x, api.Done, 10, 0)
}

// A result stands on top, even if more was left below it.
func TestResultOnTop(t *testing.T) {
	m := bare(
		api.Func{Ret: number, Code: code(n(200), n(7), n(3), in(api.OpCall, 1), api.OpSub, api.OpSub, api.OpRet)},
		api.Func{Args: []api.Type{number}, Ret: number, Code: code(n(1), n(1), in(api.OpGet, 0), n(2), api.OpAdd, api.OpRet)},
	)
	x := start(t, m, 0)
	goes(t, x, 0)
	over(t, x, api.Done, 198, 0)
}

func TestArgumentsInOrder(t *testing.T) {
	m := calls(n(1), n(7), n(2), n(3), in(api.OpCall, 4), api.OpRet)
	x := start(t, m, 0)
	for range 5 {
		quiet(t, x)
	}
	is(t, x, api.State{Frames: []api.Frame{at(0, 5, w(0, 0), nil), at(4, 0, w(1, 7, 2, 3, 0, 0, 0, 0), nil)}})
	for range 7 {
		quiet(t, x)
	}
	is(t, x, api.State{Frames: []api.Frame{at(0, 5, w(0, 0), nil), at(4, 7, w(1, 7, 2, 3, 0, 0, 0, 0), w(2, 3)), at(4, 0, w(3, 2, 7, 1, 0, 0, 0, 0), nil)}})
}

// A calls A for ever.
func TestTooDeep(t *testing.T) {
	m := bare(api.Func{Ret: number, Code: code(in(api.OpCall, 0), api.OpRet)})
	x := start(t, m, 30)
	var frames []api.Frame
	for range api.MaxDepth - 1 {
		quiet(t, x)
		frames = append(frames, at(0, 1, nil, nil))
		is(t, x, api.State{Frames: append(frames, at(0, 0, nil, nil)), Quota: 30})
	}
	quiet(t, x)
	over(t, x, api.TrapDepth, 0, 0)
}

func TestTooDeepKeepsHandles(t *testing.T) {
	m := bare(api.Func{Ret: number, Code: code(in(api.OpHost, askHan), api.OpText, in(api.OpCall, 0), api.OpRet)})
	x := start(t, m, 200)
	if done := goes(t, x, 20); done != 3*api.MaxDepth {
		t.Errorf("%d instructions", done)
	}
	over(t, x, api.TrapDepth, 0, 18*api.MaxDepth)
	for k, h := range x.State().Hans {
		if h != (api.Handle{Kind: 2, Desc: uint64(20 + k), Open: true}) || k >= api.MaxDepth {
			t.Errorf("handle %d: %v", k, h)
		}
	}
}

// At MaxDepth frames all goes on but calls; and once some are gone there is room again.
func TestAsDeepAsCanBe(t *testing.T) {
	m := bare(
		api.Func{Ret: number, Code: code(n(0), in(api.OpCall, 1), n(6), in(api.OpCall, 1), api.OpAdd, api.OpRet)},
		api.Func{Args: []api.Type{number}, Ret: number, Code: code(in(api.OpGet), in(api.OpZero, 7), in(api.OpGet), n(1), api.OpSub, in(api.OpCall, 1), api.OpRet, // calls itself so often
			n(0), n(3), api.OpAdd, api.OpRet)},
	)
	for _, c := range []struct {
		often uint64
		end   int
		value uint64
	}{{6, api.Done, 6}, {1, api.Done, 6}, {0, api.Done, 6}, {7, api.TrapDepth, 0}, {200, api.TrapDepth, 0}} {
		m.Funcs[0].Code[0] = n(c.often)
		x := start(t, m, 0)
		goes(t, x, 0)
		over(t, x, c.end, c.value, 0)
	}
}

// A call is refused by how many frames there are, at 7 not, at 8 so, wherever it stands.
func TestDepthOfLoadedStates(t *testing.T) {
	m := bare(api.Func{Ret: number, Code: code(in(api.OpCall, 1), api.OpRet)}, api.Func{Ret: number, Code: code(in(api.OpCall, 0), n(7), api.OpRet)})
	for depth := range api.MaxDepth {
		var frames []api.Frame
		for k := range depth {
			frames = append(frames, at(k%2, 1, nil, nil))
		}
		x := load(t, m, api.State{Frames: append(frames, at(depth%2, 0, nil, nil)), Quota: 9, Used: 9})
		quiet(t, x)
		if depth == api.MaxDepth-1 {
			over(t, x, api.TrapDepth, 0, 9)
			continue
		}
		is(t, x, api.State{Frames: append(frames, at(depth%2, 1, nil, nil), at((depth+1)%2, 0, nil, nil)), Quota: 9, Used: 9})
	}
}

// References and handles go through calls as they are.
func TestReferencesAndHandlesGoThrough(t *testing.T) {
	m := bare(
		api.Func{Ret: number, Locals: []api.Type{text}, Code: code(in(api.OpHost, askOther), in(api.OpHost, askHan), api.OpText, api.OpDup, in(api.OpSet), in(api.OpCall, 1), api.OpDup, in(api.OpHost, tellHan), api.OpRet)},
		api.Func{Args: []api.Type{han(2), text}, Ret: han(2), Code: code(in(api.OpGet, 1), n(0), n(65), api.OpStoreB, in(api.OpGet, 0), api.OpRet)},
	)
	x := start(t, m, 100)
	tells(t, x, 50, askOther)
	tells(t, x, 51, askHan)
	for range 11 {
		quiet(t, x)
	}
	is(t, x, api.State{Frames: []api.Frame{at(0, 7, w(1), w(0, 1, 1))}, Heap: []api.Obj{bytesOf("Ai")}, Hans: []api.Handle{{Kind: 3, Desc: 50, Open: true}, {Kind: 2, Desc: 51, Open: true}}, Quota: 100, Used: 18})
	tells(t, x, 52, tellHan, 51)
	quiet(t, x)
	over(t, x, api.Done, 52, 18)
}
