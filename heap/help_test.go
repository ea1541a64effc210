package heap

import (
	"math"
	"slices"
	"testing"

	"chrysalis/api"
)

// top: the greatest number.
const top = math.MaxUint64

// plenty: a quota that nothing here comes to.
const plenty = 1 << 40

// text: Bytes.
func text(s string) api.Obj { return api.Obj{Kind: api.Bytes, Bytes: []byte(s)} }

// ints: Ints.
func ints(words ...uint64) api.Obj { return api.Obj{Kind: api.Ints, Words: words} }

// rec: a record n.
func rec(n int, words ...uint64) api.Obj { return api.Obj{Kind: api.Rec, N: n, Words: words} }

// both: an object with words and bytes, as no module has one.
func both(kind int, s string, words ...uint64) api.Obj {
	return api.Obj{Kind: kind, N: kind + 1, Words: words, Bytes: []byte(s)}
}

// some: objects of each kind, and of none.
func some() []api.Obj {
	return []api.Obj{
		text("abc"), ints(11, 12), rec(3, 21, 22, 23), text(""), ints(), rec(0), {},
		both(api.Bytes, "xy", 31, 32, 33), both(api.Ints, "pqr", 41), both(api.Rec, "s", 51, 52), both(api.Han, "tu", 61), both(-7, "v", 71, 72),
		{Kind: math.MaxInt, N: math.MinInt, Words: []uint64{top}, Bytes: []byte{255}},
	}
}

// wide: list with spare room in each of its lists, which holds what can be told from anything else.
func wide(list []api.Obj) []api.Obj {
	out := make([]api.Obj, 0, len(list)+3)
	for _, o := range list {
		o.Words = append(slices.Clone(o.Words), 901, 902, 903)[:len(o.Words)]
		o.Bytes = append(slices.Clone(o.Bytes), 91, 92, 93)[:len(o.Bytes)]
		out = append(out, o)
	}
	return append(out, text("behind"), ints(904))[:len(list)]
}

// deep: list in memory of its own, spare room included.
func deep(list []api.Obj) []api.Obj {
	out := slices.Clone(list[:cap(list)])
	for i, o := range out {
		out[i].Words = slices.Clone(o.Words[:cap(o.Words)])[:len(o.Words)]
		out[i].Bytes = slices.Clone(o.Bytes[:cap(o.Bytes)])[:len(o.Bytes)]
	}
	return out[:len(list)]
}

// alike: that a and b are the same, nil and empty lists being so.
func alike(a, b api.Obj) bool {
	return a.Kind == b.Kind && a.N == b.N && slices.Equal(a.Words, b.Words) && slices.Equal(a.Bytes, b.Bytes)
}

// alikeWhole: that a and b are the same, with the first of their spare room.
func alikeWhole(a, b []api.Obj) bool {
	for i, o := range a[:min(cap(a), cap(b))] {
		p := b[:cap(b)][i]
		words, bytes := min(cap(o.Words), cap(p.Words)), min(cap(o.Bytes), cap(p.Bytes))
		if !alike(o, p) || !slices.Equal(o.Words[:words], p.Words[:words]) || !slices.Equal(o.Bytes[:bytes], p.Bytes[:bytes]) {
			return false
		}
	}
	return len(a) == len(b)
}

// fill: every place of list's words and bytes, spare room included, is another one.
func fill(list []api.Obj) {
	for i, o := range list {
		for n := range o.Words[:cap(o.Words)] {
			o.Words[:cap(o.Words)][n] = 0xeeeeeeeeeeeeeeee
		}
		for n := range o.Bytes[:cap(o.Bytes)] {
			o.Bytes[:cap(o.Bytes)][n] = 0xee
		}
		list[i].Kind, list[i].N = -77, -78
	}
	for i := range list[:cap(list)] {
		list[:cap(list)][i] = api.Obj{Kind: -79}
	}
}

// holds: that h has just these objects, and so much is used.
func holds(t *testing.T, h *Heap, want []api.Obj, used int) {
	t.Helper()
	if got := h.Objs(); !slices.EqualFunc(got, want, alike) {
		t.Fatalf("Objs(): %v, not %v", got, want)
	}
	if got := h.Used(); got != used {
		t.Fatalf("Used(): %d, not %d", got, used)
	}
}

// added: that h has room for o, and takes it under that reference.
func added(t *testing.T, h *Heap, o api.Obj, want uint64) {
	t.Helper()
	if ref, ok := h.Add(o); !ok || ref != want {
		t.Fatalf("Add(%v): %d, %v, not %d", o, ref, ok, want)
	}
}

// refused: that h has no room for o, and is as it was.
func refused(t *testing.T, h *Heap, o api.Obj) {
	t.Helper()
	list, used := h.Objs(), h.Used()
	if ref, ok := h.Add(o); ok || ref != 0 {
		t.Fatalf("Add(%v): %d, %v", o, ref, ok)
	}
	holds(t, h, list, used)
}

// traps: that place n of object ref has these traps, as a word and as a byte, and that nothing becomes of asking.
func traps(t *testing.T, h *Heap, ref, n uint64, word, bytes int) {
	t.Helper()
	list, used := h.Objs(), h.Used()
	if v, end := h.Word(ref, n); v != 0 || end != word {
		t.Errorf("Word(%d, %d): %d, %d, not %d", ref, n, v, end, word)
	}
	if v, end := h.Byte(ref, n); v != 0 || end != bytes {
		t.Errorf("Byte(%d, %d): %d, %d, not %d", ref, n, v, end, bytes)
	}
	if end := h.SetWord(ref, n, 5); end != word {
		t.Errorf("SetWord(%d, %d): %d, not %d", ref, n, end, word)
	}
	if end := h.SetByte(ref, n, 5); end != bytes {
		t.Errorf("SetByte(%d, %d): %d, not %d", ref, n, end, bytes)
	}
	holds(t, h, list, used)
}

// isWord, isByte: that place n of object ref is v.
func isWord(t *testing.T, h *Heap, ref, n, v uint64) {
	t.Helper()
	if got, end := h.Word(ref, n); got != v || end != api.Going {
		t.Fatalf("Word(%d, %d): %#x, %d, not %#x", ref, n, got, end, v)
	}
}

func isByte(t *testing.T, h *Heap, ref, n, v uint64) {
	t.Helper()
	if got, end := h.Byte(ref, n); got != v || end != api.Going {
		t.Fatalf("Byte(%d, %d): %#x, %d, not %#x", ref, n, got, end, v)
	}
}

// isLen: that object ref is so long.
func isLen(t *testing.T, h *Heap, ref uint64, want int) {
	t.Helper()
	if got, end := h.Len(ref); got != want || end != api.Going {
		t.Fatalf("Len(%d): %d, %d, not %d", ref, got, end, want)
	}
}

// shaker answers numbers of all widths, the same ones each time.
func shaker() func(below int) int {
	x := uint64(88172645463325252)
	return func(below int) int {
		x ^= x << 13
		x ^= x >> 7
		x ^= x << 17
		return int((x >> 11) % uint64(below))
	}
}
