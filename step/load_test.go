package step

import (
	"math"
	"testing"

	"chrysalis/api"
	"chrysalis/state"
	"chrysalis/verify"
)

// ended: a state at an end.
func ended(end int, value uint64) api.State {
	return api.State{Hans: []api.Handle{open(2, 20), closed(0, top)}, Quota: 90, Used: 80, End: end, Value: value}
}

func TestWhatIsWrongWithTheModuleIsToldFirst(t *testing.T) {
	good := prog(n(7), api.OpRet)
	typed := begun(t, good, 50)
	for _, c := range []struct {
		m    api.Module
		want api.Errno
	}{
		{api.Module{}, api.ErrForm},
		{bare(), api.ErrForm},
		{prog(), api.ErrForm},
		{prog(many(65, n(7))), api.ErrForm},
		{prog(api.Ops, api.OpRet), api.ErrForm},
		{prog(in(-1), api.OpRet), api.ErrForm},
		{prog(in(api.OpInt, 256), api.OpRet), api.ErrForm},
		{prog(in(api.OpInt, 15), api.OpRet), api.ErrArg},
		{prog(in(api.OpGet, 6), api.OpRet), api.ErrArg},
		{prog(n(7), in(api.OpJump, 2)), api.ErrArg},
		{prog(in(api.OpCall, 1), api.OpRet), api.ErrArg},
		{bare(api.Func{Ret: text, Code: code(api.OpNull, api.OpRet)}), api.ErrArg},
		{bare(api.Func{Args: []api.Type{number}, Ret: number, Code: code(n(7), api.OpRet)}), api.ErrArg},
		{prog(api.OpRet), api.ErrType},
		{prog(api.OpText, api.OpRet), api.ErrType},
		{prog(n(7)), api.ErrType},
		{prog(n(7), in(api.OpJump)), api.ErrType}, // a loop that leaves a number each time
		{prog(n(7), api.OpLen, api.OpRet), api.ErrType},
		{bare(api.Func{Ret: number, Code: code(n(7), api.OpRet)}, api.Func{Ret: text, Code: code(n(7), api.OpRet)}), api.ErrType},
	} {
		for _, s := range []api.State{typed, {}, ended(api.Done, 3), ended(api.TrapDiv, 3)} {
			refuses(t, c.m, s, c.want)
		}
		if _, _, _, e := verify.Check(c.m); e != c.want {
			t.Errorf("Check: %d, not %d; %+v", e, c.want, c.m)
		}
	}
	load(t, good, typed)
}

func TestStatesThatAreNotTyped(t *testing.T) {
	m, in1 := asking(in(api.OpGet, 0), n(7), api.OpPop, in(api.OpHost, tellHan), in(api.OpJump, 7), api.OpNull, api.OpIsNull, api.OpRet)
	hans := []api.Handle{open(2, 20), open(3, 30)}
	for _, change := range []func(*api.State){
		func(s *api.State) { s.Quota = -1 },
		func(s *api.State) { s.Quota = api.MaxQuota + 1 },
		func(s *api.State) { s.Quota = 39 },
		func(s *api.State) { s.Used = -1 },
		func(s *api.State) { s.End = api.Done },
		func(s *api.State) { s.End = api.TrapClosed },
		func(s *api.State) { s.End = -1 },
		func(s *api.State) { s.Value = 1 },
		func(s *api.State) { s.Frames = nil },
		func(s *api.State) { s.Frames = s.Frames[:1] },
		func(s *api.State) { s.Frames = s.Frames[1:] },
		func(s *api.State) { s.Frames = append(s.Frames, s.Frames[1]) },
		func(s *api.State) { s.Frames[0].PC = 2 },
		func(s *api.State) { s.Frames[0].Stack = w(1) },
		func(s *api.State) { s.Frames[1].Func = 0 },
		func(s *api.State) { s.Frames[1].Func = 2 },
		func(s *api.State) { s.Frames[1].Func = -1 },
		func(s *api.State) { s.Frames[1].PC = 1 },
		func(s *api.State) { s.Frames[1].PC = -1 },
		func(s *api.State) { s.Frames[1].PC = 8 },
		func(s *api.State) { s.Frames[1].PC = 5 }, // nobody comes to it
		func(s *api.State) { s.Frames[1].Stack = w(7) },
		func(s *api.State) { s.Frames[1].Locals = w(0) },
		func(s *api.State) { s.Frames[1].Locals[0] = 1 },
		func(s *api.State) { s.Frames[1].Locals[1] = 2 },
		func(s *api.State) { s.Hans[0].Kind = 1 },
		func(s *api.State) { s.Hans = append(s.Hans, closed(4, 0)) },
		func(s *api.State) { s.Hans = append(s.Hans, many(15, open(1, 0))...) },
		func(s *api.State) { s.Heap = []api.Obj{{}} },
		func(s *api.State) { s.Heap = []api.Obj{recOf(0, 0, 2)} },
		func(s *api.State) { s.Heap = make([]api.Obj, api.MaxObjs+1) },
	} {
		s := state.Clone(in1(hans, 0, 1))
		load(t, m, s)
		change(&s)
		refuses(t, m, s, api.ErrType)
	}
	refuses(t, m, api.State{}, api.ErrType)
	refuses(t, m, api.State{Frames: []api.Frame{{}, {}}, End: api.Done}, api.ErrType)
	refuses(t, m, api.State{Quota: 5, Heap: []api.Obj{bytesOf("")}, End: api.Done}, api.ErrType)
	refuses(t, m, ended(api.TrapDiv, 3), api.ErrType)
	refuses(t, m, ended(api.TrapClosed+1, 0), api.ErrType)
}

// A state of another program is as good as any, if it is typed.
func TestTypesAreThoseOfTheProgram(t *testing.T) {
	numbers, texts := prog(n(7), api.OpRet), prog(api.OpText, api.OpLenB, api.OpRet)
	s := begun(t, numbers, 50)
	load(t, texts, s)
	s.Frames[0].PC, s.Frames[0].Stack = 1, w(7)
	load(t, numbers, s)
	refuses(t, texts, s, api.ErrType)
	s.Heap = []api.Obj{bytesOf("abc")}
	refuses(t, texts, s, api.ErrType)
	s.Frames[0].Stack = w(1)
	x := load(t, texts, s)
	goes(t, x, 0)
	over(t, x, api.Done, 3, 0)
}

func TestLoadedAtAnEnd(t *testing.T) {
	m := prog(in(api.OpHost, askNumber), api.OpRet)
	for end := api.Done; end <= api.TrapClosed; end++ {
		x := load(t, m, ended(end, 0))
		is(t, x, ended(end, 0))
		over(t, x, end, 0, 80)
	}
	for _, v := range ints() {
		x := load(t, m, ended(api.Done, v))
		over(t, x, api.Done, v, 80)
		is(t, x, ended(api.Done, v))
	}
}

// A machine in a state is in just that, whatever stands in it that nobody reaches.
func TestLoadedIsTheState(t *testing.T) {
	m, in1 := asking(in(api.OpGet, 0), api.OpPop, n(7), api.OpRet)
	s := in1([]api.Handle{open(2, 20), open(3, 30), closed(1, top)}, 0, 1)
	s.Heap = []api.Obj{recOf(0, top, 2), recOf(0, 1, 1), bytesOf("abc"), wordsOf(1, 2, top), recOf(1), recOf(3, 1), recOf(2, 3, 4, 5, 6, 0, 0)}
	s.Used = 3 // less than these would cost: it is told as it is
	x := load(t, m, s)
	is(t, x, s)
	quiet(t, x)
	s.Frames[1].PC, s.Frames[1].Stack = 1, w(0)
	is(t, x, s)
}

func TestUsedGoesOnFromWhatItWas(t *testing.T) {
	m := prog(api.OpText, api.OpPop, in(api.OpJump))
	s := begun(t, m, 100)
	s.Used = 64
	x := load(t, m, s)
	goes(t, x, 0)
	over(t, x, api.TrapQuota, 0, 100)
	s.Used = 65
	x = load(t, m, s)
	goes(t, x, 0)
	over(t, x, api.TrapQuota, 0, 83)
}

func TestNoMachine(t *testing.T) {
	for _, x := range []*Machine{nil, {}} {
		for range 3 {
			wantsNone(t, x)
			for _, answer := range w(0, 1, top) {
				if told, did := x.Next(answer); did || told != nil {
					t.Errorf("Next: %v, %v", told, did)
				}
			}
			is(t, x, api.State{})
		}
	}
}

// Whatever is handed in, there is an answer.
func TestAnythingHasAnAnswer(t *testing.T) {
	strange := []int{math.MinInt, -1 << 32, -257, -1, 0, 1, 2, 3, 4, 8, 16, 65, 256, 257, 1 << 16, 1<<16 + 1, 1 << 32, 1<<32 + 1, math.MaxInt}
	m := prog(n(7), in(api.OpPop), n(7), api.OpRet)
	for _, a := range strange {
		for _, b := range strange {
			for op := -1; op <= api.Ops; op++ {
				odd := prog(api.Instr{Op: op, A: a, B: b}, n(7), api.OpRet)
				x, e := Load(odd, begun(t, m, 100))
				if (x == nil) == (e == api.OK) {
					t.Fatalf("%v, %d", x, e)
				}
				if x != nil {
					for range 100 {
						x.Next(1)
					}
				}
			}
			for _, s := range []api.State{
				{Frames: []api.Frame{at(a, b, w(top), w(0))}, Quota: 9}, {Frames: []api.Frame{at(0, a, make([]uint64, 6), nil), at(0, b, make([]uint64, 6), nil)}},
				{Heap: []api.Obj{{Kind: a, N: b}}, End: api.Done}, {Hans: []api.Handle{{Kind: a}}, End: b, Quota: -1}, {Quota: a, Used: b, End: api.Going},
			} {
				refuses(t, m, s, api.ErrType)
			}
		}
	}
	refuses(t, m, api.State{Frames: make([]api.Frame, 1<<20)}, api.ErrType)
	refuses(t, m, api.State{Hans: make([]api.Handle, 1<<20)}, api.ErrType)
	refuses(t, api.Module{Funcs: make([]api.Func, 1<<20)}, begun(t, m, 9), api.ErrForm)
}
