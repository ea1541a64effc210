package heap

import (
	"slices"
	"testing"

	"chrysalis/api"
)

// setAll: every place of every object that h has is v.
func setAll(h *Heap, v uint64) {
	for i, o := range h.Objs() {
		for n := range o.Words {
			h.SetWord(uint64(i)+1, uint64(n), v)
		}
		for n := range o.Bytes {
			h.SetByte(uint64(i)+1, uint64(n), v)
		}
	}
}

func TestWhatIsHandedInStays(t *testing.T) {
	list := wide(some())
	before := deep(list)
	h := New(list, plenty, 0)
	setAll(h, 0x77)
	for _, o := range list {
		h.Add(o)
	}
	setAll(h, 0x78)
	refused(t, New(list, 0, 0), list[0])
	Cost(list[0])
	if !alikeWhole(list, before) {
		t.Errorf("changed: %v, not %v", list, before)
	}
}

func TestWhatIsHandedInIsNotKept(t *testing.T) {
	list := wide(some())
	h := New(list, plenty, 0)
	fill(list)
	holds(t, h, some(), 0)
	one := wide(some())
	for i, o := range one {
		added(t, h, o, uint64(i+len(some()))+1)
	}
	fill(one)
	if got := h.Objs(); !slices.EqualFunc(got, append(some(), some()...), alike) {
		t.Errorf("kept: %v", got)
	}
}

func TestWhatIsAnsweredIsNotKept(t *testing.T) {
	h := New(wide(some()), plenty, 5)
	first := h.Objs()
	fill(h.Objs())
	holds(t, h, some(), 5)
	setAll(h, 0x77)
	added(t, h, ints(1), uint64(len(some()))+1)
	if !slices.EqualFunc(first, some(), alike) {
		t.Errorf("an answer was changed: %v", first)
	}
}

// No two lists of an answer share memory, the room behind them included.
func TestListsOfAnAnswerStandAlone(t *testing.T) {
	for i := range some() {
		got := New(some(), 0, 0).Objs()
		fill(got[i : i+1 : i+1])
		for n, o := range some() {
			if n != i && !alike(got[n], o) {
				t.Errorf("object %d with object %d: %v", n, i, got[n])
			}
		}
		got = New(some(), 0, 0).Objs()
		o := &got[i]
		o.Words, o.Bytes = append(o.Words, 5, 6, 7), append(o.Bytes, 5, 6, 7)
		o.Words, o.Bytes = o.Words[:len(o.Words)-3], o.Bytes[:len(o.Bytes)-3]
		if !slices.EqualFunc(got, some(), alike) {
			t.Errorf("what stands behind object %d: %v", i, got)
		}
	}
}

// Objects that are handed in as one and the same memory are objects each of its own.
func TestObjectsThatShareMemory(t *testing.T) {
	words, bytes := []uint64{1, 2, 3, 4}, []byte("abcd")
	list := []api.Obj{{Kind: api.Ints, Words: words[:2], Bytes: bytes[:2]}, {Kind: api.Ints, Words: words, Bytes: bytes}, {Kind: api.Ints, Words: words[1:], Bytes: bytes[1:]}}
	h := New(list, plenty, 0)
	added(t, h, list[1], 4)
	added(t, h, list[1], 5)
	for ref := range uint64(5) {
		if h.SetWord(ref+1, 1, 100+ref) != api.Going || h.SetByte(ref+1, 1, 'A'+ref) != api.Going {
			t.Fatalf("object %d is not set", ref+1)
		}
	}
	one := func(s string, words ...uint64) api.Obj {
		return api.Obj{Kind: api.Ints, Words: words, Bytes: []byte(s)}
	}
	holds(t, h, []api.Obj{one("aA", 1, 100), one("aBcd", 1, 101, 3, 4), one("bCd", 2, 102, 4), one("aDcd", 1, 103, 3, 4), one("aEcd", 1, 104, 3, 4)}, 104)
}

func TestHeapsStandAlone(t *testing.T) {
	list := some()
	a, b := New(list, plenty, 0), New(list, 100, 50)
	setAll(a, 0x77)
	added(t, a, ints(1, 2, 3), uint64(len(list))+1)
	holds(t, b, some(), 50)
	added(t, b, text("b"), uint64(len(list))+1)
	holds(t, b, append(some(), text("b")), 67)
	holds(t, New(list, 100, 50), some(), 50)
	back := New(a.Objs(), plenty, a.Used()) // one that goes on from another's objects
	setAll(back, 0x78)
	isWord(t, a, 2, 0, 0x77)
	isWord(t, back, 2, 0, 0x78)
}

func TestNilAndEmptyLists(t *testing.T) {
	empty := api.Obj{Kind: api.Ints, Words: []uint64{}, Bytes: []byte{}}
	for _, list := range [][]api.Obj{nil, {}, make([]api.Obj, 0, 5)} {
		h := New(list, 40, 0)
		holds(t, h, nil, 0)
		added(t, h, empty, 1)
		added(t, h, ints(), 2)
		holds(t, h, []api.Obj{ints(), empty}, 32)
	}
	holds(t, New([]api.Obj{empty, ints()}, 0, 0), []api.Obj{ints(), empty}, 0)
}

func TestTheSameAgain(t *testing.T) {
	do := func() ([]api.Obj, []int) {
		next := shaker()
		h := New(some(), 2000, 0)
		var out []int
		for range 500 {
			ref, n := uint64(next(20)), uint64(next(4))
			added, ok := h.Add(some()[next(13)])
			length, a := h.Len(ref)
			word, b := h.Word(ref, n)
			bytes, c := h.Byte(ref, n)
			out = append(out, int(added), length, a, int(word), b, int(bytes), c, h.SetWord(ref, n, uint64(next(99))), h.SetByte(n, ref, uint64(next(99))), h.Used())
			if ok != (added != 0) {
				t.Fatalf("%d beside %v", added, ok)
			}
		}
		return h.Objs(), out
	}
	list, numbers := do()
	again, others := do()
	if !slices.EqualFunc(list, again, alike) || !slices.Equal(numbers, others) {
		t.Error("another answer")
	}
}
