package heap

import (
	"math"
	"slices"
	"testing"

	"chrysalis/api"
)

func TestTheChaptersExample(t *testing.T) {
	h := New(nil, 100, 0)
	ref, ok := h.Add(ints(42, 43))
	if ref != 1 || !ok {
		t.Fatalf("Add: %d, %v", ref, ok)
	}
	isWord(t, h, ref, 0, 42)
}

func TestEachPlace(t *testing.T) {
	h := New(some(), 0, 0)
	for i, o := range some() {
		ref := uint64(i) + 1
		for n, v := range o.Words {
			isWord(t, h, ref, uint64(n), v)
		}
		for n, v := range o.Bytes {
			isByte(t, h, ref, uint64(n), uint64(v))
		}
	}
	holds(t, h, some(), 0)
}

// Of Bytes it is bytes, of all others words, whatever else they have.
func TestLen(t *testing.T) {
	list := some()
	h := New(list, 0, 0)
	for i, want := range []int{3, 2, 3, 0, 0, 0, 0, 2, 1, 2, 1, 2, 1} {
		isLen(t, h, uint64(i)+1, want)
	}
	for kind := -2; kind < 12; kind++ {
		want := 3
		if kind == api.Bytes {
			want = 2
		}
		isLen(t, New([]api.Obj{both(kind, "ab", 1, 2, 3)}, 0, 0), 1, want)
	}
	long := api.Obj{Kind: api.Ints, Words: make([]uint64, 1<<17), Bytes: make([]byte, 1<<16)}
	isLen(t, New([]api.Obj{long}, 0, 0), 1, 1<<17)
	long.Kind = api.Bytes
	isLen(t, New([]api.Obj{long}, 0, 0), 1, 1<<16)
}

// noRefs: references to none of many objects, those that are one of them in their lowest bits alone among them.
func noRefs(many uint64) []uint64 {
	out := []uint64{0, many + 1, many + 2, 1000, api.MaxObjs, api.MaxObjs + 1, 1 << 31, 1 << 32, 1<<32 + 1, 1 << 63, 1<<63 + 1, top - 1, top}
	for n := range 64 {
		if one := uint64(1) << n; one > many {
			out = append(out, one, one+1, one+many, -one)
		}
	}
	return out
}

func TestNoSuchObject(t *testing.T) {
	for _, list := range [][]api.Obj{nil, some()[:1], some()} {
		h := New(list, 0, 0)
		for _, ref := range noRefs(uint64(len(list))) {
			for _, n := range []uint64{0, 1, 2, 1 << 32, top} {
				traps(t, h, ref, n, api.TrapNull, api.TrapNull)
			}
			if n, end := h.Len(ref); n != 0 || end != api.TrapNull {
				t.Errorf("Len(%d): %d, %d", ref, n, end)
			}
		}
	}
}

// What an object has not as words it may have as bytes, and the other way round.
func TestNoSuchPlace(t *testing.T) {
	h := New(wide(some()), 0, 0)
	for i, o := range some() {
		ref := uint64(i) + 1
		words, bytes := uint64(len(o.Words)), uint64(len(o.Bytes))
		for _, n := range append(noRefs(max(words, bytes)), max(words, bytes)) {
			if n != 0 || words+bytes == 0 {
				traps(t, h, ref, n, api.TrapBounds, api.TrapBounds)
			}
		}
		for n := words; n < bytes; n++ {
			if v, end := h.Word(ref, n); v != 0 || end != api.TrapBounds || h.SetWord(ref, n, 1) != api.TrapBounds {
				t.Errorf("word %d of %v: %d, %d", n, o, v, end)
			}
			isByte(t, h, ref, n, uint64(o.Bytes[n]))
		}
		for n := bytes; n < words; n++ {
			if v, end := h.Byte(ref, n); v != 0 || end != api.TrapBounds || h.SetByte(ref, n, 1) != api.TrapBounds {
				t.Errorf("byte %d of %v: %d, %d", n, o, v, end)
			}
			isWord(t, h, ref, n, o.Words[n])
		}
	}
	holds(t, h, some(), 0)
}

func TestSetWordIsOneWordAlone(t *testing.T) {
	want := some()
	h := New(some(), 500, 400)
	for i := range want {
		for n := range want[i].Words {
			for _, v := range []uint64{0, 1, 255, 256, 1 << 32, 1 << 63, 0x0123456789abcdef, top} {
				if end := h.SetWord(uint64(i)+1, uint64(n), v); end != api.Going {
					t.Fatalf("SetWord(%d, %d): %d", i+1, n, end)
				}
				want[i].Words[n] = v
				isWord(t, h, uint64(i)+1, uint64(n), v)
				holds(t, h, want, 400)
			}
		}
	}
}

func TestSetByteIsOneByteAlone(t *testing.T) {
	want := some()
	h := New(some(), 500, 400)
	for i := range want {
		for n := range want[i].Bytes {
			for v := range uint64(256) {
				for _, high := range []uint64{0, 1 << 8, 1 << 32, 1 << 63, 0xabcdef << 40, top - 255} {
					if end := h.SetByte(uint64(i)+1, uint64(n), v+high); end != api.Going {
						t.Fatalf("SetByte(%d, %d): %d", i+1, n, end)
					}
					isByte(t, h, uint64(i)+1, uint64(n), v)
				}
				want[i].Bytes[n] = byte(v)
			}
			holds(t, h, want, 400)
		}
	}
}

func TestSetInAnAddedOne(t *testing.T) {
	h := New(some()[:2], plenty, 0)
	for i, o := range some()[2:] {
		added(t, h, o, uint64(i)+3)
	}
	if h.SetWord(3, 2, 99) != api.Going || h.SetByte(8, 1, 0x1ff) != api.Going || h.SetWord(13, 0, 98) != api.Going {
		t.Fatal("not set")
	}
	want := some()
	want[2].Words[2], want[7].Bytes[1], want[12].Words[0] = 99, 0xff, 98
	if got := h.Objs(); !slices.EqualFunc(got, want, alike) {
		t.Fatalf("Objs(): %v, not %v", got, want)
	}
}

// A nil one, and one that New did not make, have no objects and no room.
func TestNoHeap(t *testing.T) {
	for _, h := range []*Heap{nil, {}} {
		for _, o := range some() {
			refused(t, h, o)
		}
		for _, ref := range append(noRefs(0), 1) {
			for _, n := range []uint64{0, 1, top} {
				traps(t, h, ref, n, api.TrapNull, api.TrapNull)
			}
			if n, end := h.Len(ref); n != 0 || end != api.TrapNull {
				t.Errorf("Len(%d): %d, %d", ref, n, end)
			}
		}
		holds(t, h, nil, 0)
	}
}

// The chapter as it stands, over one list with all that was done to it.
func TestAsReadAgain(t *testing.T) {
	next := shaker()
	for range 200 {
		list, quota, used := some()[:next(14)], next(900)-100, next(600)-200
		h := New(list, quota, used)
		for range 100 {
			ref, n, v := uint64(next(22)), uint64(next(5)), uint64(next(1000))
			there := ref > 0 && int(ref) <= len(list)
			switch next(3) {
			case 0:
				o := some()[next(13)]
				fits := used+16+8*len(o.Words)+len(o.Bytes) <= quota
				if got, ok := h.Add(o); ok != fits || ok && int(got) != len(list)+1 || !ok && got != 0 {
					t.Fatalf("Add: %d, %v, not %v", got, ok, fits)
				} else if ok {
					list, used = append(list, o), used+16+8*len(o.Words)+len(o.Bytes)
				}
			case 1:
				want := api.TrapNull
				if there && int(n) < len(list[ref-1].Words) {
					want, list[ref-1].Words[n] = api.Going, v
				} else if there {
					want = api.TrapBounds
				}
				if got := h.SetWord(ref, n, v); got != want {
					t.Fatalf("SetWord(%d, %d): %d, not %d", ref, n, got, want)
				}
			case 2:
				want := api.TrapNull
				if there && int(n) < len(list[ref-1].Bytes) {
					want, list[ref-1].Bytes[n] = api.Going, byte(v%256)
				} else if there {
					want = api.TrapBounds
				}
				if got := h.SetByte(ref, n, v); got != want {
					t.Fatalf("SetByte(%d, %d): %d, not %d", ref, n, got, want)
				}
			}
			holds(t, h, list, used)
		}
	}
}

// Whatever is handed in, there is an answer.
func TestAnythingHasAnAnswer(t *testing.T) {
	numbers := []int{math.MinInt, -1 << 41, -1, 0, 1, 16, 1 << 41, math.MaxInt}
	for _, a := range numbers {
		for _, b := range numbers {
			for _, list := range [][]api.Obj{nil, {}, {{}}, {{Kind: a, N: b}}, some()} {
				h := New(list, a, b)
				h.Add(api.Obj{Kind: a, N: b})
				h.Add(api.Obj{Kind: b, Words: make([]uint64, 1<<12), Bytes: make([]byte, 1<<12)})
				for _, ref := range []uint64{0, 1, 2, uint64(a), uint64(b)} {
					h.Len(ref)
					h.Word(ref, uint64(b))
					h.Byte(ref, uint64(b))
					h.SetWord(ref, uint64(b), uint64(a))
					h.SetByte(ref, uint64(b), uint64(a))
				}
				h.Objs()
				h.Used()
			}
		}
	}
}
