package step

import (
	"fmt"
	"slices"
	"testing"

	"chrysalis/api"
	"chrysalis/state"
)

// trim: list again, in memory of its own, with n of x in the room behind it.
func trim[T any](list []T, n int, x T) []T {
	return slices.Concat(list, many(n, x))[: len(list) : len(list)+n]
}

// roomy: s in memory of its own, with n things that may not be in the room behind each list.
func roomy(s api.State, n int) api.State {
	s.Frames, s.Heap, s.Hans = trim(s.Frames, n, at(99, 98, w(97), w(96))), trim(s.Heap, n, api.Obj{Kind: 95}), trim(s.Hans, n, api.Handle{Kind: 94})
	for k, f := range s.Frames {
		s.Frames[k].Locals, s.Frames[k].Stack = trim(f.Locals, n, 93), trim(f.Stack, n, 92)
	}
	for k, o := range s.Heap {
		s.Heap[k].Words, s.Heap[k].Bytes = trim(o.Words, n, 91), trim(o.Bytes, n, 90)
	}
	return s
}

// room: m in memory of its own, with n things that may not be in the room behind each list.
func room(m api.Module, n int) api.Module {
	odd := api.Type{Kind: 77, N: 78}
	m.Recs, m.Funcs, m.Imports, m.Ints, m.Texts = trim(m.Recs, n, []api.Type{odd}), trim(m.Funcs, n, api.Func{Ret: odd}), trim(m.Imports, n, api.Import{Ret: odd}), trim(m.Ints, n, 89), trim(m.Texts, n, "88")
	for k, fields := range m.Recs {
		m.Recs[k] = trim(fields, n, odd)
	}
	for k, f := range m.Funcs {
		m.Funcs[k].Args, m.Funcs[k].Locals, m.Funcs[k].Code = trim(f.Args, n, odd), trim(f.Locals, n, odd), trim(f.Code, n, in(-1))
	}
	for k, i := range m.Imports {
		m.Imports[k].Args = trim(i.Args, n, odd)
	}
	return m
}

// whole: list, with its spare room.
func whole[T any](list []T) []T { return list[:cap(list)] }

// dump: all of m and s, the spare room of their lists included, as a text.
func dump(m api.Module, s api.State) string {
	text := fmt.Sprintln(len(m.Recs), len(m.Funcs), len(m.Imports), len(m.Ints), len(m.Texts), whole(m.Recs), whole(m.Funcs), whole(m.Imports), whole(m.Ints), whole(m.Texts))
	for _, fields := range m.Recs {
		text += fmt.Sprintln(len(fields), whole(fields))
	}
	for _, f := range m.Funcs {
		text += fmt.Sprintln(len(f.Args), len(f.Locals), len(f.Code), whole(f.Args), whole(f.Locals), whole(f.Code))
	}
	for _, i := range m.Imports {
		text += fmt.Sprintln(len(i.Args), whole(i.Args))
	}
	text += fmt.Sprintln(len(s.Frames), len(s.Heap), len(s.Hans), whole(s.Frames), whole(s.Heap), whole(s.Hans), s.Quota, s.Used, s.End, s.Value)
	for _, f := range s.Frames {
		text += fmt.Sprintln(len(f.Locals), len(f.Stack), whole(f.Locals), whole(f.Stack))
	}
	for _, o := range s.Heap {
		text += fmt.Sprintln(len(o.Words), len(o.Bytes), whole(o.Words), whole(o.Bytes))
	}
	return text
}

// fill: every place of list, spare room included, is x.
func fill[T any](list []T, x T) {
	for i := range whole(list) {
		whole(list)[i] = x
	}
}

// spoil: every place of every list of s, spare room included, is another one.
func spoil(s api.State) {
	for _, f := range s.Frames {
		fill(f.Locals, 0xeeeeeeeeeeeeeeee)
		fill(f.Stack, 0xeeeeeeeeeeeeeeee)
	}
	for _, o := range s.Heap {
		fill(o.Words, 0xdddddddddddddddd)
		fill(o.Bytes, 0xdd)
	}
	fill(s.Frames, at(-77, -78, w(1), w(2)))
	fill(s.Heap, api.Obj{Kind: -79})
	fill(s.Hans, api.Handle{Kind: -80})
}

// spoilModule: likewise of m.
func spoilModule(m api.Module) {
	odd := api.Type{Kind: -81}
	for _, fields := range m.Recs {
		fill(fields, odd)
	}
	for _, f := range m.Funcs {
		fill(f.Args, odd)
		fill(f.Locals, odd)
		fill(f.Code, in(-82))
	}
	for _, i := range m.Imports {
		fill(i.Args, odd)
	}
	fill(m.Recs, nil)
	fill(m.Funcs, api.Func{})
	fill(m.Imports, api.Import{})
	fill(m.Ints, 83)
	fill(m.Texts, "84")
}

// busy: a program that does a bit of everything, and the states in which it stands behind some instructions.
func busy(t *testing.T) (api.Module, []api.State) {
	t.Helper()
	m := bare(
		api.Func{Ret: number, Locals: []api.Type{number, rec(0), text}, Code: code(
			n(7), in(api.OpGet, 1), in(api.OpNew), in(api.OpSet, 1), in(api.OpText), in(api.OpSet, 2), n(3), api.OpInts, n(1), n(200), api.OpStore,
			in(api.OpHost, askHan), in(api.OpGet, 2), in(api.OpCall, 1), in(api.OpSet, 0), in(api.OpGet, 1), in(api.OpGet, 0), in(api.OpPut), in(api.OpGet, 1), in(api.OpField), api.OpRet)},
		api.Func{Args: []api.Type{han(2), text}, Ret: number, Locals: []api.Type{number}, Code: code(
			in(api.OpGet, 1), n(1), n(65), api.OpStoreB, in(api.OpHost, askOther), n(2), in(api.OpGet, 0), in(api.OpHost, askOther), n(64), in(api.OpHost, tellMany), api.OpClose,
			in(api.OpGet, 0), in(api.OpHost, tellHan), in(api.OpSet, 2), in(api.OpGet, 1), n(1), api.OpLoadB, in(api.OpGet, 2), api.OpAdd, api.OpRet)},
	)
	x := start(t, m, 500)
	list := []api.State{x.State()}
	for answer := uint64(30); x.State().End == api.Going; answer++ {
		x.Next(answer)
		list = append(list, x.State())
	}
	over(t, x, api.Done, 65+56, 32+18+40) // 56: what the host says to instruction 26 of those that are done
	return m, list
}

// same: that two states are.
func same(t *testing.T, a, b api.State) {
	t.Helper()
	if !state.Same(a, b) {
		t.Fatalf("%s; not %s", shown(a), shown(b))
	}
}

// Wherever it is paused, in however much room it is handed in, it goes on the same.
func TestPausedAnywhere(t *testing.T) {
	m, list := busy(t)
	for k, s := range list {
		x := load(t, room(m, k%3), roomy(s, k%4))
		for n, want := range list[k:] {
			same(t, x.State(), want)
			x.Next(uint64(30 + k + n))
		}
	}
}

func TestWhatIsHandedInStays(t *testing.T) {
	m, list := busy(t)
	for k, s := range list {
		m, s := room(m, k%3), roomy(s, k%4)
		before := dump(m, s)
		x := load(t, m, s)
		for n := range list {
			x.Want()
			x.Next(uint64(n))
			x.State()
		}
		if got := dump(m, s); got != before {
			t.Fatalf("changed: %s, not %s", got, before)
		}
	}
}

// Whatever becomes of what was handed in, the machine goes on as ever.
func TestWhatIsHandedInIsNotKept(t *testing.T) {
	m, list := busy(t)
	for k, s := range list {
		m, s := room(m, k%3), roomy(s, k%4)
		x := load(t, m, s)
		spoilModule(m)
		spoil(s)
		for n, want := range list[k:] {
			same(t, x.State(), want)
			x.Next(uint64(30 + k + n))
		}
	}
}

// Whatever becomes of what was answered, the machine goes on as ever, and other answers stay.
func TestAnswersAreNewMemory(t *testing.T) {
	m, list := busy(t)
	x := load(t, m, list[0])
	var told []api.Event
	for k, want := range list {
		a, b := x.State(), x.State()
		spoil(a)
		same(t, b, want)
		same(t, x.State(), want)
		events, _ := x.Next(uint64(30 + k))
		same(t, b, want)
		spoil(b)
		for _, e := range events {
			told = append(told, api.Event{Import: e.Import, Args: slices.Clone(e.Args)})
			fill(e.Args, 0xcccccccccccccccc)
		}
		fill(events, api.Event{Import: -85})
	}
	want := []api.Event{{Import: askHan}, {Import: askOther}, {Import: askOther}, {Import: tellMany, Args: w(2, 41, 51, 64)}, {Import: tellHan, Args: w(41)}}
	if !slices.EqualFunc(told, want, func(a, b api.Event) bool { return a.Import == b.Import && slices.Equal(a.Args, b.Args) }) {
		t.Errorf("told %v", told)
	}
}

// What an object holds is its own, whatever stands on the stack where its words stood; so are a call's arguments.
func TestStackIsNobodyElses(t *testing.T) {
	s := afterwards(t, 500, n(7), api.OpNull, in(api.OpNew), n(3), api.OpNull, in(api.OpNew), n(200), n(65), api.OpPop, api.OpPop)
	same(t, s, api.State{Frames: []api.Frame{at(0, 10, make([]uint64, 6), w(1, 2))}, Heap: []api.Obj{recOf(0, 7, 0), recOf(0, 3, 0)}, Quota: 500, Used: 64})
	m := bare(
		api.Func{Ret: number, Code: code(n(1), n(2), n(3), in(api.OpCall, 1), n(200), api.OpRet)},
		api.Func{Args: []api.Type{number, number}, Ret: number, Code: code(n(64), in(api.OpSet, 0), n(65), in(api.OpSet, 1), n(7), n(6), api.OpRet)},
	)
	x := start(t, m, 0)
	for range 10 {
		quiet(t, x)
	}
	is(t, x, api.State{Frames: []api.Frame{at(0, 4, nil, w(1)), at(1, 6, w(64, 65), w(7, 6))}})
	quiet(t, x)
	is(t, x, api.State{Frames: []api.Frame{at(0, 4, nil, w(1, 6))}})
}

// Machines of one state go on each for itself.
func TestMachinesAreEachForThemselves(t *testing.T) {
	m, list := busy(t)
	for k, s := range list[:len(list)-1] {
		a, b, c := load(t, m, s), load(t, m, s), load(t, m, s)
		for n, want := range list[k:] {
			same(t, a.State(), want)
			same(t, b.State(), s)
			a.Next(uint64(30 + k + n))
			c.Next(uint64(n)) // other answers
		}
		b.Next(uint64(30 + k))
		same(t, b.State(), list[k+1])
	}
}

// Lists that are one and the same memory are as good as others, and go each their own way.
func TestListsThatShareMemory(t *testing.T) {
	m := bare(api.Func{Ret: number, Locals: []api.Type{number, number, list}, Code: code(n(7), in(api.OpSet), n(1), in(api.OpCall, 0), api.OpAdd, api.OpRet)})
	words := w(1, 2, 1, 1)
	s := api.State{Frames: []api.Frame{at(0, 4, words[:3], words[:1]), at(0, 4, words[:3], words[1:2]), at(0, 1, words[:3], words[:1])}, Heap: []api.Obj{wordsOf(words...), wordsOf(words[1:]...)}, Quota: 9}
	s.Heap[0].Words, s.Heap[1].Words = words, words[1:]
	x := load(t, m, s)
	quiet(t, x)
	heap := []api.Obj{wordsOf(1, 2, 1, 1), wordsOf(2, 1, 1)}
	is(t, x, api.State{Frames: []api.Frame{at(0, 4, w(1, 2, 1), w(1)), at(0, 4, w(1, 2, 1), w(2)), at(0, 2, w(1, 2, 1), nil)}, Heap: heap, Quota: 9})
}

func TestNilAndEmptyLists(t *testing.T) {
	m := prog(n(7), api.OpRet)
	m.Funcs[0].Args, m.Funcs[0].Locals, m.Imports, m.Texts = []api.Type{}, []api.Type{}, []api.Import{}, []string{}
	x := load(t, m, api.State{Frames: []api.Frame{{Locals: []uint64{}, Stack: []uint64{}}}, Heap: []api.Obj{}, Hans: []api.Handle{}})
	goes(t, x, 0)
	over(t, x, api.Done, 7, 0)
	m.Funcs[0].Args, m.Funcs[0].Locals, m.Imports, m.Texts = nil, nil, nil, nil
	x = load(t, m, api.State{Frames: []api.Frame{{}}})
	goes(t, x, 0)
	over(t, x, api.Done, 7, 0)
}
