package hans

import (
	"math"
	"slices"
	"testing"

	"chrysalis/api"
)

// top: the greatest number.
const top = math.MaxUint64

// some: open and closed handles of kinds that there are, and of none; two of them are the same.
func some() []api.Handle {
	return []api.Handle{
		{Kind: 1, Desc: 5, Open: true}, {Kind: 2, Desc: 6}, {}, {Open: true}, {Kind: 1, Desc: 5, Open: true},
		{Kind: 3, Desc: top, Open: true}, {Kind: 3, Desc: 1 << 63}, {Kind: api.MaxKinds, Desc: 7, Open: true},
		{Kind: math.MinInt, Desc: 1<<32 + 1, Open: true}, {Kind: math.MaxInt, Desc: 9},
	}
}

// many: so many handles, open at first or not, each with another Desc.
func many(n int, open bool) []api.Handle {
	out := make([]api.Handle, n)
	for i := range out {
		out[i] = api.Handle{Kind: i % api.MaxKinds, Desc: 1000 + uint64(i), Open: open}
	}
	return out
}

// wide: list with spare room that holds what can be told from anything else.
func wide(list []api.Handle) []api.Handle {
	out := make([]api.Handle, 0, len(list)+4)
	out = append(out, list...)
	for i := range 4 {
		out = append(out, api.Handle{Kind: 90, Desc: 900 + uint64(i), Open: true})
	}
	return out[:len(list)]
}

// fill: every place of list, spare room included, is another one.
func fill(list []api.Handle) {
	list = list[:cap(list)]
	for i, h := range list {
		list[i] = api.Handle{Kind: -77, Desc: 0xeeeeeeeeeeeeeeee, Open: !h.Open}
	}
}

// holds: that t has just these handles, by List and by Use of each.
func holds(t *testing.T, x *Table, want []api.Handle) {
	t.Helper()
	if got := x.List(); !slices.Equal(got, want) {
		t.Fatalf("List(): %v, not %v", got, want)
	}
	for n, h := range want {
		if h.Open {
			isOpen(t, x, uint64(n), h.Desc)
		} else {
			isClosed(t, x, uint64(n))
		}
	}
	isClosed(t, x, uint64(len(want)))
	if got := x.List(); !slices.Equal(got, want) {
		t.Fatalf("List() behind Use: %v, not %v", got, want)
	}
}

// isOpen, isClosed: what Use answers of handle n.
func isOpen(t *testing.T, x *Table, n, desc uint64) {
	t.Helper()
	if got, end := x.Use(n); got != desc || end != api.Going {
		t.Fatalf("Use(%d): %d, %d, not %d", n, got, end, desc)
	}
}

func isClosed(t *testing.T, x *Table, n uint64) {
	t.Helper()
	if got, end := x.Use(n); got != 0 || end != api.TrapClosed {
		t.Fatalf("Use(%d): %d, %d, though it is not open", n, got, end)
	}
}

// opened: that x has room for one more, and takes it under that number.
func opened(t *testing.T, x *Table, kind int, desc, want uint64) {
	t.Helper()
	if n, ok := x.Open(kind, desc); !ok || n != want {
		t.Fatalf("Open(%d, %d): %d, %v, not %d", kind, desc, n, ok, want)
	}
}

// full: that x has no room for one more, and is as it was.
func full(t *testing.T, x *Table, kind int, desc uint64) {
	t.Helper()
	before := x.List()
	if n, ok := x.Open(kind, desc); ok || n != 0 {
		t.Fatalf("Open(%d, %d): %d, %v, though there is no room", kind, desc, n, ok)
	}
	holds(t, x, before)
}

// closes, stays: that Close of n answers that it is done, or that there was none open and x is as it was.
func closes(t *testing.T, x *Table, n uint64) {
	t.Helper()
	if end := x.Close(n); end != api.Going {
		t.Fatalf("Close(%d): %d", n, end)
	}
}

func stays(t *testing.T, x *Table, n uint64) {
	t.Helper()
	before := x.List()
	if end := x.Close(n); end != api.TrapClosed {
		t.Fatalf("Close(%d): %d, though it is not open", n, end)
	}
	holds(t, x, before)
}

// noNumbers: numbers of none of so many handles, those that are one of them in their lowest bits alone among them.
func noNumbers(many uint64) []uint64 {
	out := []uint64{many, many + 1, many + 2, 1000, 1<<63 - 1, 1<<63 + 1, top - 1, top}
	for n := range 64 {
		if one := uint64(1) << n; one >= many {
			out = append(out, one, one+many, -one)
			if many > 0 {
				out = append(out, one+many-1)
			}
		}
	}
	return slices.DeleteFunc(out, func(n uint64) bool { return n < many })
}

// shaker answers numbers of all widths, the same ones each time.
func shaker() func(below int) int {
	x := uint64(88172645463325252)
	return func(below int) int {
		x ^= x << 13
		x ^= x >> 7
		x ^= x << 17
		return int((x >> 11) % uint64(below))
	}
}
