package state

import (
	"fmt"
	"math"
	"slices"
	"testing"

	"chrysalis/api"
)

// sample: a state of world, and whether it is typed.
type sample struct {
	s    api.State
	want bool
}

// samples: each chain, some of what may be wrong with it, and ends.
func samples() []sample {
	out := []sample{{ended(api.Done, 3), true}, {ended(api.TrapDiv, 3), false}, {api.State{}, false}}
	for _, frames := range chains() {
		last := len(frames) - 1
		out = append(out, sample{going(frames...), true})
		for _, change := range []func(*api.State){
			func(c *api.State) { c.Used = c.Quota + 1 },
			func(c *api.State) { c.Frames[last].PC = 50 },
			func(c *api.State) { c.Frames[last].Stack = append(c.Frames[last].Stack, 1) },
			func(c *api.State) { c.Frames[0].Locals = c.Frames[0].Locals[1:] },
			func(c *api.State) { c.Heap[7].Words[1] = 1 },
			func(c *api.State) { c.Hans[4].Kind = 4 },
		} {
			s := going(slices.Clone(frames)...)
			change(&s)
			out = append(out, sample{s, false})
		}
	}
	return out
}

// said: m and maps, with the room behind some of their lists, as a text.
func said(m api.Module, maps [][]api.Shape) string {
	text := fmt.Sprintln(m, maps, m.Funcs[:cap(m.Funcs)], m.Recs[:cap(m.Recs)], maps[:cap(maps)])
	for _, list := range maps {
		text += fmt.Sprintln(list[:cap(list)])
		for _, s := range list {
			text += fmt.Sprintln(s.Stack[:cap(s.Stack)])
		}
	}
	for _, f := range m.Funcs {
		text += fmt.Sprintln(f.Args[:cap(f.Args)], f.Locals[:cap(f.Locals)], f.Code[:cap(f.Code)])
	}
	return text
}

// room: m and maps in memory of their own, with room behind their lists that holds what may not be.
func room(m api.Module, maps [][]api.Shape) (api.Module, [][]api.Shape) {
	odd := api.Type{Kind: 77, N: 78}
	m.Funcs, m.Recs, maps = trim(m.Funcs, 3, api.Func{Ret: odd}), trim(m.Recs, 3, []api.Type{odd}), trim(maps, 3, nil)
	for n, f := range m.Funcs {
		m.Funcs[n].Args, m.Funcs[n].Locals, m.Funcs[n].Code = trim(f.Args, 3, odd), trim(f.Locals, 3, odd), trim(f.Code, 3, in(-1))
	}
	for n, fields := range m.Recs {
		m.Recs[n] = trim(fields, 3, odd)
	}
	for n, list := range maps {
		maps[n] = trim(list, 3, api.Shape{Seen: true})
		for pc, s := range list {
			maps[n][pc].Stack = trim(s.Stack, 3, odd)
		}
	}
	return m, maps
}

func TestWhatIsHandedInStays(t *testing.T) {
	m, maps := room(world(), checked(t, world()))
	before := said(m, maps)
	for _, x := range samples() {
		for n := range 4 {
			s := roomy(x.s, n)
			want := dump(s)
			says(t, x.want, m, maps, s)
			Clone(s)
			Same(s, roomy(s, 1))
			Same(roomy(s, 2), s)
			if got := dump(s); got != want {
				t.Fatalf("changed: %s, not %s", got, want)
			}
		}
	}
	begins(t, m, 50, 5)
	if said(m, maps) != before {
		t.Error("the module, or maps, are changed")
	}
}

func TestTheSameAgain(t *testing.T) {
	m, maps := world(), checked(t, world())
	for range 3 {
		list := samples()
		for _, x := range list {
			says(t, x.want, m, maps, x.s)
		}
		slices.Reverse(list)
		for _, x := range list { // whatever was asked between
			says(t, x.want, m, maps, x.s)
		}
	}
}

// What was handed in is not kept: once it is changed, it is as it is then.
func TestNothingIsKept(t *testing.T) {
	m := world()
	maps := checked(t, m)
	s := roomy(going(waits1(), joins1()), 0)
	for range 2 {
		says(t, true, m, maps, s)
		s.Frames[1].Stack[1] = 2
		says(t, false, m, maps, s)
		s.Hans[2].Kind = 1
		says(t, true, m, maps, s)
		s.Hans[2].Kind, s.Frames[1].Stack[1] = 2, 1
		s.Heap[0].Kind = api.Ints
		says(t, false, m, maps, s)
		s.Heap[0].Kind = api.Bytes
		maps[1][9].Stack[2] = number
		says(t, false, m, maps, s)
		maps[1][9].Stack[2] = none
	}
	a, b := s, roomy(s, 0)
	same(t, true, a, b)
	b.Frames[0].Locals[0]++
	same(t, false, a, b)
	a.Frames[0].Locals[0]++
	same(t, true, a, b)
}

// Lists that are one and the same memory are as good as others.
func TestListsThatShareMemory(t *testing.T) {
	m := bare(api.Func{Ret: number, Locals: []api.Type{number, number}, Code: code(api.OpInt, in(api.OpCall, 0), api.OpAdd, api.OpRet)})
	maps := checked(t, m)
	words := w(1, 2, 3)
	s := going(at(0, 2, words[:2], words[:1]), at(0, 2, words[1:], words[2:]), at(0, 1, words[:2], words[:1]))
	s.Heap = []api.Obj{{Kind: api.Ints, Words: words}, {Kind: api.Ints, Words: words[1:2]}}
	says(t, true, m, maps, s)
	same(t, true, s, s)
	same(t, true, s, Clone(s))
	s.Frames[1].Stack = words
	says(t, false, m, maps, s)
}

func TestNilAndEmptyLists(t *testing.T) {
	m := prog(back())
	m.Funcs[0].Args, m.Funcs[0].Locals = []api.Type{}, []api.Type{}
	maps := checked(t, m)
	full := api.State{Frames: []api.Frame{{Locals: []uint64{}, Stack: []uint64{}}}, Heap: []api.Obj{}, Hans: []api.Handle{}}
	bare := api.State{Frames: []api.Frame{{}}}
	for _, s := range []api.State{full, bare} {
		says(t, true, m, maps, s)
		s.Heap = []api.Obj{{Kind: api.Bytes, Words: []uint64{}, Bytes: []byte{}}, {Kind: api.Ints, Words: []uint64{}, Bytes: []byte{}}, {Kind: api.Rec, N: 1, Words: []uint64{}, Bytes: []byte{}}}
		says(t, true, m, maps, s)
		s.Heap = []api.Obj{{Kind: api.Bytes}, {Kind: api.Ints}, {Kind: api.Rec, N: 1}}
		says(t, true, m, maps, s)
	}
	says(t, true, m, maps, api.State{Frames: []api.Frame{}, Heap: []api.Obj{}, End: api.Done})
}

// Whatever is handed in, there is an answer.
func TestAnythingHasAnAnswer(t *testing.T) {
	numbers := append(strangeNumbers(), 0, 1, 2, 3, 4)
	m := world()
	maps := checked(t, m)
	for _, x := range numbers {
		for _, y := range numbers {
			s := api.State{Frames: []api.Frame{at(x, y, w(top), w(0)), at(y, x, nil, nil)}, Heap: []api.Obj{{Kind: x, N: y}}, Hans: []api.Handle{{Kind: y}}, Quota: x, Used: y}
			same(t, true, s, Clone(s))
			says(t, false, m, maps, s)
			s.Quota, s.Used, s.Heap, s.Hans = 9, 9, nil, nil
			says(t, false, m, maps, s)
			for _, f := range chains()[3] {
				says(t, false, m, maps, api.State{Frames: []api.Frame{f, at(x, y, nil, nil)}})
				says(t, false, m, maps, api.State{Frames: []api.Frame{waits1(), at(x, y, nil, nil), f}})
			}
			s = api.State{End: x, Value: uint64(y)}
			says(t, x >= api.Done && x <= api.TrapClosed && (y == 0 || x == api.Done), m, maps, s)
		}
	}
	for _, s := range []api.State{
		{Frames: make([]api.Frame, 1<<20)}, {Frames: many(1, at(0, 0, make([]uint64, 1<<20), nil))}, {Frames: many(1, at(0, 0, make([]uint64, 5), make([]uint64, 1<<20)))},
		{Heap: make([]api.Obj, 1<<20)}, {Hans: make([]api.Handle, 1<<20)}, {Heap: []api.Obj{{Kind: api.Rec, Words: make([]uint64, 1<<20), Bytes: make([]byte, 1<<20)}}},
	} {
		says(t, false, m, maps, s)
		s.End = api.Done
		says(t, false, m, maps, s)
		same(t, true, s, Clone(s))
	}
	says(t, false, m, make([][]api.Shape, 1<<20), going(first0()))
	m.Funcs = make([]api.Func, 1<<20)
	says(t, false, m, maps, going(first0()))
	refused(t, m, 50)
	refused(t, m, math.MinInt)
}
