package heap

import (
	"math"
	"testing"

	"chrysalis/api"
)

func TestCost(t *testing.T) {
	for _, s := range []struct {
		o    api.Obj
		want int
	}{
		{api.Obj{}, 16}, {text(""), 16}, {ints(), 16}, {rec(0), 16}, {rec(7), 16},
		{text("a"), 17}, {text("abc"), 19}, {text("abcdefgh"), 24}, {text(string(make([]byte, api.MaxLen))), 80},
		{ints(0), 24}, {ints(top), 24}, {ints(1, 2), 32}, {rec(0, 1), 24}, {rec(5, 1, 2, 3, 4, 5, 6), 64}, {ints(make([]uint64, api.MaxLen)...), 528},
		{both(api.Bytes, "ab", 1, 2, 3), 42}, {both(api.Ints, "ab", 1, 2, 3), 42}, {both(api.Rec, "ab", 1, 2, 3), 42}, {both(0, "ab", 1, 2, 3), 42}, {both(math.MaxInt, "a", 1), 25},
		{api.Obj{Kind: api.Ints, Words: []uint64{}, Bytes: []byte{}}, 16},
		{api.Obj{Words: make([]uint64, 2, 9), Bytes: make([]byte, 3, 9)}, 35},
		{api.Obj{Kind: api.Ints, Words: make([]uint64, 1<<20)}, 8<<20 + 16}, {api.Obj{Bytes: make([]byte, 1<<20)}, 1<<20 + 16},
	} {
		if got := Cost(s.o); got != s.want {
			t.Errorf("Cost(%d, %d words, %d bytes): %d, not %d", s.o.Kind, len(s.o.Words), len(s.o.Bytes), got, s.want)
		}
	}
}

func TestAddOneByOne(t *testing.T) {
	h := New(nil, plenty, 0)
	holds(t, h, nil, 0)
	used := 0
	for i, o := range some() {
		added(t, h, o, uint64(i)+1)
		used += Cost(o)
		holds(t, h, some()[:i+1], used)
	}
	h = New(some()[:3], plenty, 1000) // behind those that are there
	added(t, h, ints(7), 4)
	added(t, h, text("q"), 5)
	holds(t, h, append(some()[:3], ints(7), text("q")), 1041)
}

// Just as much as there is may be used, and not one more.
func TestAddUpToTheQuota(t *testing.T) {
	objs := append(some(), text(string(make([]byte, api.MaxLen))), ints(make([]uint64, api.MaxLen)...))
	for _, quota := range []int{-1 << 39, -1 << 31, -1000, -17, -16, -1, 0, 1, 15, 16, 17, 500, api.MaxQuota, 1<<31 - 1, 1 << 31, 1<<32 + 5, 1 << 39, 1<<40 - 1, 1 << 40} {
		for _, o := range objs {
			cost := Cost(o)
			for _, more := range []int{-1, -2, -100} {
				h := New(nil, quota, quota-cost+more)
				added(t, h, o, 1)
				holds(t, h, []api.Obj{o}, quota+more)
			}
			h := New(nil, quota, quota-cost)
			added(t, h, o, 1)
			holds(t, h, []api.Obj{o}, quota)
			refused(t, h, api.Obj{})
			for _, more := range []int{1, 2, cost - 1, cost, cost + 1, 1000} {
				refused(t, New(nil, quota, quota-cost+more), o)
			}
		}
	}
}

// What does not fit leaves the room for what does.
func TestAddBehindARefusedOne(t *testing.T) {
	h := New([]api.Obj{ints(9)}, 100, 60)
	refused(t, h, ints(1, 2, 3, 4))
	refused(t, h, text("0123456789012345678901234"))
	refused(t, h, text("0123456789012345678901234"))
	added(t, h, text("01234567"), 2)
	holds(t, h, []api.Obj{ints(9), text("01234567")}, 84)
	refused(t, h, text("0"))
	added(t, h, text(""), 3)
	holds(t, h, []api.Obj{ints(9), text("01234567"), text("")}, 100)
	refused(t, h, text(""))
}

// What is used is what New is told, whatever its objects would cost.
func TestUsedIsNotCounted(t *testing.T) {
	for _, used := range []int{-1 << 40, -5, 0, 1, 17, 1 << 33, 1 << 40} {
		for _, quota := range []int{-1 << 40, -5, 0, 16, 1 << 40} {
			holds(t, New(some(), quota, used), some(), used)
		}
	}
	h := New([]api.Obj{ints(make([]uint64, 1000)...)}, 16, 0)
	added(t, h, ints(), 2)
}

// Numbers beyond 2^40, above 0 and below, are those.
func TestQuotaAndUsedAtTheirEnds(t *testing.T) {
	const far = 1 << 40
	for _, n := range []int{far, far + 1, 1 << 41, 1 << 62, math.MaxInt - 1, math.MaxInt} {
		holds(t, New(nil, 0, n), nil, far)
		holds(t, New(nil, 0, -n), nil, -far)
		h := New(nil, n, far-16)
		added(t, h, text(""), 1)
		holds(t, h, []api.Obj{text("")}, far)
		refused(t, h, text(""))
		refused(t, New(nil, n, far-15), text(""))
		refused(t, New(nil, n, n), text(""))
		refused(t, New(nil, -n, -n), text(""))
		refused(t, New(nil, -n, -far), text(""))
		refused(t, New(nil, -far, -n), text(""))
		h = New(nil, n, -n)
		added(t, h, ints(1, 2), 1)
		holds(t, h, []api.Obj{ints(1, 2)}, 32-far)
		h = New(nil, 16-far, -n)
		added(t, h, rec(2), 1)
		holds(t, h, []api.Obj{rec(2)}, 16-far)
		refused(t, New(nil, 15-far, -n), rec(2))
	}
	holds(t, New(nil, math.MinInt, math.MinInt), nil, -far)
	refused(t, New(nil, math.MinInt, math.MinInt), text(""))
	refused(t, New(nil, math.MinInt, math.MaxInt), text(""))
	added(t, New(nil, math.MaxInt, math.MinInt), text(""), 1)
	holds(t, New(nil, 0, far-1), nil, far-1)
	holds(t, New(nil, 0, 1-far), nil, 1-far)
}

func TestAddUpToMaxObjs(t *testing.T) {
	h := New(nil, plenty, 0)
	for n := range api.MaxObjs {
		added(t, h, ints(uint64(n)), uint64(n)+1)
	}
	refused(t, h, api.Obj{})
	refused(t, h, text("a"))
	for n := range uint64(api.MaxObjs) {
		isWord(t, h, n+1, 0, n)
	}
	traps(t, h, api.MaxObjs+1, 0, api.TrapNull, api.TrapNull)
	h = New(make([]api.Obj, api.MaxObjs-1), plenty, 0)
	added(t, h, text("a"), api.MaxObjs)
	refused(t, h, text("a"))
	isByte(t, h, api.MaxObjs, 0, 'a')
}

// Those that New is given are all there, even if there are more than there may be.
func TestMoreThanMaxObjs(t *testing.T) {
	for _, many := range []int{api.MaxObjs, api.MaxObjs + 1, 3 * api.MaxObjs} {
		list := make([]api.Obj, many)
		list[many-1] = ints(5, 6)
		h := New(list, plenty, 7)
		holds(t, h, list, 7)
		refused(t, h, api.Obj{})
		isWord(t, h, uint64(many), 1, 6)
		isLen(t, h, uint64(many), 2)
		traps(t, h, uint64(many)+1, 0, api.TrapNull, api.TrapNull)
	}
}

func TestUsedNeverFalls(t *testing.T) {
	next := shaker()
	h := New(some(), 3000, -500)
	for range 2000 {
		used, ref, n := h.Used(), uint64(next(20)), uint64(next(4))
		switch next(5) {
		case 0:
			o := some()[next(13)]
			if _, ok := h.Add(o); ok {
				used += Cost(o)
			}
		case 1:
			h.SetWord(ref, n, top)
		case 2:
			h.SetByte(ref, n, 0)
		case 3:
			h.Word(ref, n)
			h.Byte(ref, n)
		case 4:
			h.Len(ref)
			h.Objs()
		}
		if h.Used() != used {
			t.Fatalf("Used(): %d, not %d", h.Used(), used)
		}
	}
}
