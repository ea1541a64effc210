package state

import (
	"fmt"
	"math"
	"slices"
	"testing"

	"chrysalis/api"
)

// states: some of each sort, typed ones and such as no program has; no two of them are the same.
func states() []api.State {
	out := []api.State{
		{}, {Quota: 1}, {Used: 1}, {End: 1}, {Value: 1}, {Quota: -1}, {Used: math.MinInt}, {End: math.MaxInt}, {Value: top},
		{Frames: make([]api.Frame, 1)}, {Frames: make([]api.Frame, 2)}, {Heap: make([]api.Obj, 1)}, {Heap: make([]api.Obj, 2)}, {Hans: make([]api.Handle, 1)}, {Hans: make([]api.Handle, 2)},
		{Frames: []api.Frame{at(-5, math.MaxInt, w(1), w(2, 3)), at(7, 7, w(1, 2), nil), at(7, 7, nil, w(1, 2))}},
		{Heap: []api.Obj{{Kind: 90, N: -9, Words: w(1, 2), Bytes: []byte{1, 2}}, {Words: w(1, 2)}, {Bytes: []byte{1, 2}}}},
		ended(api.Done, 3), ended(api.TrapNull, 0), ended(api.TrapNull, 3),
	}
	for _, frames := range chains() {
		out = append(out, going(frames...))
	}
	return out
}

// changes: s, changed in each of its places and lists, in one alone each.
func changes(s api.State) []api.State {
	return append(changedNumbers(s), changedLists(s)...)
}

// changer: what puts one more state, changed so, in a list.
func changer(s api.State, out *[]api.State) func(change func(*api.State)) {
	return func(change func(*api.State)) {
		c := roomy(s, 0)
		change(&c)
		*out = append(*out, c)
	}
}

// changedNumbers: each number is another one.
func changedNumbers(s api.State) []api.State {
	var out []api.State
	add := changer(s, &out)
	for _, d := range []int{1, -1, 1 << 8, 1 << 32, math.MinInt} {
		add(func(c *api.State) { c.Quota += d })
		add(func(c *api.State) { c.Used += d })
		add(func(c *api.State) { c.End += d })
		add(func(c *api.State) { c.Value += uint64(d) })
		for n, f := range s.Frames {
			add(func(c *api.State) { c.Frames[n].Func += d })
			add(func(c *api.State) { c.Frames[n].PC += d })
			for k := range f.Locals {
				add(func(c *api.State) { c.Frames[n].Locals[k] += uint64(d) })
			}
			for k := range f.Stack {
				add(func(c *api.State) { c.Frames[n].Stack[k] += uint64(d) })
			}
		}
		for n, o := range s.Heap {
			add(func(c *api.State) { c.Heap[n].Kind += d })
			add(func(c *api.State) { c.Heap[n].N += d })
			for k := range o.Words {
				add(func(c *api.State) { c.Heap[n].Words[k] += uint64(d) })
			}
			for k := range o.Bytes {
				add(func(c *api.State) { c.Heap[n].Bytes[k]++ })
			}
		}
		for n := range s.Hans {
			add(func(c *api.State) { c.Hans[n].Kind += d })
			add(func(c *api.State) { c.Hans[n].Desc += uint64(d) })
			add(func(c *api.State) { c.Hans[n].Open = !c.Hans[n].Open })
		}
	}
	return out
}

// changedLists: each list has one more, or one fewer.
func changedLists(s api.State) []api.State {
	var out []api.State
	add := changer(s, &out)
	add(func(c *api.State) { c.Frames = append(c.Frames, api.Frame{}) })
	add(func(c *api.State) { c.Heap = append(c.Heap, api.Obj{}) })
	add(func(c *api.State) { c.Hans = append(c.Hans, api.Handle{}) })
	for n, f := range s.Frames {
		add(func(c *api.State) { c.Frames = slices.Delete(c.Frames, n, n+1) })
		add(func(c *api.State) { c.Frames[n].Locals = append(c.Frames[n].Locals, 0) })
		add(func(c *api.State) { c.Frames[n].Stack = append(c.Frames[n].Stack, 0) })
		if k := len(f.Locals); k > 0 {
			add(func(c *api.State) { c.Frames[n].Locals = c.Frames[n].Locals[:k-1] })
		}
		if k := len(f.Stack); k > 0 {
			add(func(c *api.State) { c.Frames[n].Stack = c.Frames[n].Stack[:k-1] })
		}
	}
	for n, o := range s.Heap {
		add(func(c *api.State) { c.Heap = slices.Delete(c.Heap, n, n+1) })
		add(func(c *api.State) { c.Heap[n].Words = append(c.Heap[n].Words, 0) })
		add(func(c *api.State) { c.Heap[n].Bytes = append(c.Heap[n].Bytes, 0) })
		if k := len(o.Words); k > 0 {
			add(func(c *api.State) { c.Heap[n].Words = c.Heap[n].Words[:k-1] })
		}
		if k := len(o.Bytes); k > 0 {
			add(func(c *api.State) { c.Heap[n].Bytes = c.Heap[n].Bytes[:k-1] })
		}
	}
	for n := range s.Hans {
		add(func(c *api.State) { c.Hans = slices.Delete(c.Hans, n, n+1) })
	}
	return out
}

// same: that Same says so, both ways about.
func same(t *testing.T, want bool, a, b api.State) {
	t.Helper()
	if Same(a, b) != want || Same(b, a) != want {
		t.Fatalf("Same: not %v of %s and %s", want, dump(a), dump(b))
	}
}

func TestSame(t *testing.T) {
	for n, a := range states() {
		for k, b := range states() {
			same(t, n == k, a, b)
			same(t, n == k, roomy(a, 3), roomy(b, k%3))
		}
	}
}

func TestSameAsksEachPlace(t *testing.T) {
	for _, s := range states() {
		for _, c := range changes(s) {
			same(t, false, s, c)
			same(t, true, c, roomy(c, 2))
		}
	}
}

// What stands in another order is another state.
func TestSameAsksTheOrder(t *testing.T) {
	s := going(waits1(), waits2(), twice2())
	for _, change := range []func(*api.State){
		func(c *api.State) { slices.Reverse(c.Frames) },
		func(c *api.State) { slices.Reverse(c.Heap) },
		func(c *api.State) { slices.Reverse(c.Hans) },
		func(c *api.State) { slices.Reverse(c.Frames[0].Locals) },
		func(c *api.State) { slices.Reverse(c.Frames[0].Stack) },
		func(c *api.State) { slices.Reverse(c.Heap[1].Words) },
		func(c *api.State) { slices.Reverse(c.Heap[0].Bytes) },
		func(c *api.State) { c.Frames[0].Locals, c.Frames[0].Stack = c.Frames[0].Stack, c.Frames[0].Locals },
		func(c *api.State) { c.Frames[1].Locals, c.Frames[0].Locals = c.Frames[0].Locals, c.Frames[1].Locals },
		func(c *api.State) { c.Quota, c.Used = c.Used, c.Quota },
	} {
		c := roomy(s, 1)
		change(&c)
		same(t, false, s, c)
		change(&c)
		same(t, true, s, c)
	}
}

func TestSameOfNilAndEmptyLists(t *testing.T) {
	empty := func() api.State {
		return api.State{
			Frames: []api.Frame{{Locals: []uint64{}, Stack: []uint64{}}, {Locals: w(1)[:0]}},
			Heap:   []api.Obj{{Words: []uint64{}, Bytes: []byte{}}, {Bytes: []byte("x")[:0]}}, Hans: []api.Handle{},
		}
	}
	bare := api.State{Frames: make([]api.Frame, 2), Heap: make([]api.Obj, 2)}
	same(t, true, empty(), bare)
	same(t, true, api.State{Frames: []api.Frame{}, Heap: []api.Obj{}, Hans: []api.Handle{}}, api.State{})
	same(t, true, Clone(empty()), bare)
	same(t, true, empty(), Clone(bare))
}

func TestClone(t *testing.T) {
	for _, s := range states() {
		for _, c := range append(changes(s), s) {
			got := Clone(c)
			if shown(got) != shown(c) {
				t.Fatalf("Clone: %s, not %s", shown(got), shown(c))
			}
			same(t, true, got, c)
		}
	}
}

// What becomes of a clone does not become of what it was made of, nor the other way round.
func TestClonesStandAlone(t *testing.T) {
	for _, s := range states() {
		for room := range 3 {
			first, before := roomy(s, room), dump(roomy(s, room))
			a, b := Clone(first), Clone(first)
			if dump(first) != before {
				t.Fatalf("changed: %s, not %s", dump(first), before)
			}
			spoil(a)
			if dump(first) != before || shown(b) != shown(s) {
				t.Fatalf("changed with a clone: %s; %s, not %s", dump(first), dump(b), before)
			}
			c := Clone(b)
			spoil(first)
			spoil(b)
			if shown(c) != shown(s) {
				t.Fatalf("changed with what it was made of: %s, not %s", shown(c), shown(s))
			}
		}
	}
}

// lists: each list of numbers and of bytes that s has, as a text.
func lists(s api.State) []string {
	var out []string
	for _, f := range s.Frames {
		out = append(out, fmt.Sprint(f.Locals), fmt.Sprint(f.Stack))
	}
	for _, o := range s.Heap {
		out = append(out, fmt.Sprint(o.Words), fmt.Sprint(o.Bytes))
	}
	return out
}

// What becomes of a list of a clone, or of the room behind it, does not become of another one, even if they are one where they come from.
func TestListsOfACloneStandAlone(t *testing.T) {
	words, bytes := w(1, 2, 3, 4), []byte("abcd")
	shared := api.State{
		Frames: []api.Frame{at(0, 1, words[:2], words), at(2, 3, words[1:], words[:2])},
		Heap:   []api.Obj{{Kind: 1, Words: words, Bytes: bytes}, {Kind: 2, Words: words[:2], Bytes: bytes[:2]}, {Kind: 3, Words: words[2:3], Bytes: bytes[1:]}},
	}
	want := lists(shared)
	for n := range want {
		c := Clone(shared)
		var numbers *[]uint64
		var texts *[]byte
		switch {
		case n < 4:
			numbers = []*[]uint64{&c.Frames[n/2].Locals, &c.Frames[n/2].Stack}[n%2]
		case n%2 == 0:
			numbers = &c.Heap[n/2-2].Words
		default:
			texts = &c.Heap[n/2-2].Bytes
		}
		if texts != nil {
			_ = append(*texts, 5, 6, 7)
			(*texts)[0]++
		} else {
			_ = append(*numbers, 5, 6, 7)
			(*numbers)[0]++
		}
		for k, got := range lists(c) {
			if (got == want[k]) != (k != n) {
				t.Fatalf("list %d with list %d: %s, not %s", k, n, got, want[k])
			}
		}
		if got := lists(shared); !slices.Equal(got, want) {
			t.Fatalf("with list %d: %v, not %v", n, got, want)
		}
	}
}

func TestRoomBehindAClone(t *testing.T) {
	c := Clone(api.State{Frames: make([]api.Frame, 1), Heap: make([]api.Obj, 1), Hans: make([]api.Handle, 1)})
	d := Clone(c)
	_ = append(c.Frames, at(1, 2, nil, nil))
	_ = append(c.Heap, api.Obj{Kind: 3})
	_ = append(c.Hans, api.Handle{Kind: 4})
	same(t, true, c, d)
	d.Frames, d.Heap, d.Hans = append(d.Frames, at(5, 6, nil, nil)), append(d.Heap, api.Obj{Kind: 7}), append(d.Hans, api.Handle{Kind: 8})
	if d.Frames[1].Func != 5 || d.Heap[1].Kind != 7 || d.Hans[1].Kind != 8 {
		t.Error("what is put behind a clone is put behind another one")
	}
}

func TestCloneOfMuch(t *testing.T) {
	s := api.State{Frames: many(1000, at(1, 2, w(3), w(4))), Heap: many(100000, api.Obj{Kind: 5, Words: w(6), Bytes: []byte{7}}), Hans: many(1000, api.Handle{Kind: 8})}
	c := Clone(s)
	same(t, true, s, c)
	c.Heap[99999].Words[0]++
	same(t, false, s, c)
	if s.Heap[0].Words[0] != 6 || c.Heap[0].Words[0] != 6 {
		t.Error("one for all")
	}
}
