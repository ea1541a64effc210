package step

import (
	"strings"
	"testing"

	"chrysalis/api"
	"chrysalis/state"
)

// afterwards: the state of a program of this code, once as many instructions are done as it has; what comes behind them is n(0), OpRet.
func afterwards(t *testing.T, quota int, parts ...any) api.State {
	t.Helper()
	all := code(parts...)
	x := start(t, prog(all, n(0), api.OpRet), quota)
	for range all {
		quiet(t, x)
	}
	return x.State()
}

// has: that a program of this code has just these objects behind it, that number on top, and so much used, even if its quota is no greater.
func has(t *testing.T, heap []api.Obj, on uint64, used int, parts ...any) {
	t.Helper()
	for _, quota := range []int{used, used + 1, api.MaxQuota} {
		s := afterwards(t, quota, parts...)
		if len(s.Frames) != 1 || s.End != api.Going {
			t.Fatalf("at an end: %s", shown(s))
		}
		stack := s.Frames[0].Stack
		if len(stack) == 0 || stack[len(stack)-1] != on {
			t.Fatalf("%v is on the stack, not %d", stack, on)
		}
		s.Frames = nil
		if !state.Same(s, api.State{Heap: heap, Quota: quota, Used: used}) {
			t.Fatalf("%s; not %v, used %d", shown(s), heap, used)
		}
	}
}

// bytesOf, wordsOf, recOf: objects.
func bytesOf(b string) api.Obj                 { return api.Obj{Kind: api.Bytes, Bytes: []byte(b)} }
func wordsOf(words ...uint64) api.Obj          { return api.Obj{Kind: api.Ints, Words: words} }
func recOf(which int, words ...uint64) api.Obj { return api.Obj{Kind: api.Rec, N: which, Words: words} }

func TestText(t *testing.T) {
	has(t, []api.Obj{bytesOf("hi")}, 1, 18, api.OpText)
	has(t, []api.Obj{bytesOf("")}, 1, 16, in(api.OpText, 1))
	has(t, []api.Obj{bytesOf("\x00\xff\x80")}, 1, 19, in(api.OpText, 2))
	has(t, []api.Obj{bytesOf(strings.Repeat("x", 32))}, 1, 48, in(api.OpText, 3))
	has(t, []api.Obj{bytesOf("hi"), bytesOf("hi"), bytesOf("")}, 3, 52, api.OpText, api.OpText, in(api.OpText, 1))
}

// Each text is a new object: what is written into one is in no other.
func TestTextIsNewEachTime(t *testing.T) {
	has(t, []api.Obj{bytesOf("hA"), bytesOf("hi")}, 2, 36, api.OpText, n(1), n(65), api.OpStoreB, api.OpText)
	has(t, []api.Obj{bytesOf("hi"), bytesOf("hA")}, 105, 36, api.OpText, api.OpText, n(1), n(65), api.OpStoreB, n(1), api.OpLoadB)
}

func TestNewTakesInOrder(t *testing.T) {
	has(t, []api.Obj{recOf(0, 7, 0)}, 1, 32, n(7), api.OpNull, in(api.OpNew))
	has(t, []api.Obj{recOf(0, 7, 0), recOf(0, top, 1)}, 2, 64, n(top), n(7), api.OpNull, in(api.OpNew), in(api.OpNew))
	has(t, []api.Obj{recOf(1)}, 1, 16, in(api.OpNew, 1))
	has(t, []api.Obj{recOf(1), recOf(1), recOf(1)}, 3, 48, in(api.OpNew, 1), in(api.OpNew, 1), in(api.OpNew, 1))
	has(t, []api.Obj{recOf(0, 200, 0)}, 1, 32, n(3), n(200), api.OpNull, in(api.OpNew))
}

func TestNewOfAllFields(t *testing.T) {
	x := start(t, prog(in(api.OpHost, askHan), n(3), in(api.OpText), n(2), api.OpInts, in(api.OpNew, 1), n(top), in(api.OpHost, askHan), api.OpNull, in(api.OpNew, 2), n(0), api.OpRet), 1000)
	for answer := range uint64(10) {
		x.Next(answer)
	}
	is(t, x, api.State{
		Frames: []api.Frame{at(0, 10, make([]uint64, 6), w(0, 3, 4))},
		Heap:   []api.Obj{bytesOf("hi"), wordsOf(0, 0), recOf(1), recOf(2, 1, 2, 3, top, 1, 0)},
		Hans:   []api.Handle{{Kind: 2, Open: true}, {Kind: 2, Desc: 7, Open: true}}, Quota: 1000, Used: 130,
	})
}

func TestZeros(t *testing.T) {
	has(t, []api.Obj{wordsOf()}, 1, 16, n(0), api.OpInts)
	has(t, []api.Obj{wordsOf(0, 0, 0)}, 1, 40, n(3), api.OpInts)
	has(t, []api.Obj{wordsOf(make([]uint64, 64)...)}, 1, 528, n(64), api.OpInts)
	has(t, []api.Obj{bytesOf("")}, 1, 16, n(0), api.OpBytes)
	has(t, []api.Obj{bytesOf("\x00\x00\x00")}, 1, 19, n(3), api.OpBytes)
	has(t, []api.Obj{bytesOf(strings.Repeat("\x00", 64))}, 1, 80, n(64), api.OpBytes)
	has(t, []api.Obj{wordsOf(0), bytesOf("\x00\x00"), wordsOf(0, 0)}, 3, 24+18+32, n(1), api.OpInts, n(2), api.OpBytes, n(2), api.OpInts)
}

func TestTooLong(t *testing.T) {
	for _, op := range []int{api.OpInts, api.OpBytes} {
		for _, v := range w(65, 200, 0x12345678, 1<<32, 1<<63, top) {
			for _, quota := range []int{0, 15, api.MaxQuota} { // ahead of asking for room
				traps(t, api.TrapBounds, quota, 0, n(v), op)
			}
		}
	}
}

func TestNoRoom(t *testing.T) {
	for _, quota := range []int{0, 1, 15, 16, 17, 18, 31} {
		traps(t, api.TrapQuota, quota, 0, n(7), api.OpNull, in(api.OpNew))
		traps(t, api.TrapQuota, quota, 0, n(2), api.OpInts)
		if quota < 16 {
			traps(t, api.TrapQuota, quota, 0, n(0), api.OpInts)
			traps(t, api.TrapQuota, quota, 0, n(0), api.OpBytes)
			traps(t, api.TrapQuota, quota, 0, in(api.OpText, 1))
			traps(t, api.TrapQuota, quota, 0, in(api.OpNew, 1))
		}
		if quota < 18 {
			traps(t, api.TrapQuota, quota, 0, api.OpText)
			traps(t, api.TrapQuota, quota, 0, n(2), api.OpBytes)
		}
	}
	traps(t, api.TrapQuota, 527, 0, n(64), api.OpInts)
	traps(t, api.TrapQuota, 79, 0, n(64), api.OpBytes)
	traps(t, api.TrapQuota, 49, 18, api.OpText, api.OpPop, n(2), api.OpInts)
	traps(t, api.TrapQuota, 35, 18, api.OpText, api.OpText)
}

// An object that is no more reached has used what it used.
func TestUsedNeverFalls(t *testing.T) {
	s := afterwards(t, 100, n(3), api.OpInts, api.OpPop, n(3), api.OpInts, api.OpPop)
	if s.Used != 80 || len(s.Heap) != 2 {
		t.Error(shown(s))
	}
	traps(t, api.TrapQuota, 100, 80, n(3), api.OpInts, api.OpPop, n(3), api.OpInts, api.OpPop, n(1), api.OpInts)
}

func TestManyObjects(t *testing.T) {
	m := prog(in(api.OpText, 1), api.OpPop, in(api.OpNew, 1), api.OpPop, n(0), api.OpInts, api.OpPop, n(0), api.OpBytes, api.OpPop, n(7), api.OpRet)
	for _, pc := range []int{0, 2, 5, 8} {
		for _, count := range []int{api.MaxObjs - 1, api.MaxObjs} {
			s := api.State{Frames: []api.Frame{at(0, pc, make([]uint64, 6), nil)}, Heap: many(count, bytesOf("a")), Quota: 1000, Used: 3}
			if pc > 3 {
				s.Frames[0].Stack = w(0)
			}
			x := load(t, m, s)
			quiet(t, x)
			if count == api.MaxObjs {
				over(t, x, api.TrapQuota, 0, 3)
				continue
			}
			if got := x.State(); len(got.Heap) != api.MaxObjs || got.Used != 19 || got.Frames[0].Stack[0] != api.MaxObjs {
				t.Errorf("%d: %d objects, %d used, %v", pc, len(got.Heap), got.Used, got.Frames)
			}
		}
	}
}

func TestFieldAndPut(t *testing.T) {
	heap := []api.Obj{recOf(0, 7, 0)}
	has(t, heap, 7, 32, n(7), api.OpNull, in(api.OpNew), in(api.OpField))
	has(t, heap, 0, 32, n(7), api.OpNull, in(api.OpNew), in(api.OpField, 0, 1))
	has(t, []api.Obj{recOf(0, 7, 0), recOf(0, 3, 1)}, 1, 64, n(7), api.OpNull, in(api.OpNew), in(api.OpSet, 1), n(3), in(api.OpGet, 1), in(api.OpNew), in(api.OpField, 0, 1))
	has(t, []api.Obj{recOf(0, 200, 1)}, 1, 32, n(7), api.OpNull, in(api.OpNew), api.OpDup, api.OpDup, n(200), in(api.OpPut), api.OpDup, in(api.OpGet, 1), in(api.OpPut, 0, 1), api.OpDup, api.OpDup, in(api.OpPut, 0, 1))
	has(t, []api.Obj{recOf(0, top, 0), recOf(0, 2, 0)}, 2, 64, n(1), api.OpNull, in(api.OpNew), n(2), api.OpNull, in(api.OpNew), api.OpSwap, n(top), in(api.OpPut))
}

func TestFieldsOfSix(t *testing.T) {
	six := api.State{Frames: []api.Frame{at(0, 0, w(0, 0, 0, 0, 4, 0), nil)}, Heap: []api.Obj{bytesOf("a"), wordsOf(1), recOf(1), recOf(2, 1, 2, 3, 99, 0, 4)}, Hans: []api.Handle{{Kind: 2}}, Quota: 50}
	for field, want := range w(1, 2, 3, 99, 0, 4) {
		x := load(t, prog(in(api.OpGet, 4), in(api.OpField, 2, field), api.OpPop, n(7), api.OpRet), six)
		quiet(t, x)
		quiet(t, x)
		s := x.State()
		if got := s.Frames[0].Stack; len(got) != 1 || got[0] != want {
			t.Errorf("field %d: %v", field, got)
		}
		s.Frames = six.Frames
		if !state.Same(s, six) {
			t.Errorf("field %d: %s", field, shown(s))
		}
	}
	for _, c := range [][2]int{{0, 2}, {1, 3}, {2, 5}, {3, 0}, {5, 4}} { // 4 is a handle, which no local holds
		field, from := c[0], c[1]
		x := load(t, prog(in(api.OpGet, 4), in(api.OpGet, from), in(api.OpPut, 2, field), n(7), api.OpRet), six)
		for range 3 {
			quiet(t, x)
		}
		want := state.Clone(six)
		want.Frames[0].PC = 3
		want.Heap[3].Words[field] = six.Frames[0].Locals[from]
		is(t, x, want)
	}
}

func TestLoadAndStore(t *testing.T) {
	has(t, []api.Obj{wordsOf(0, top, 0)}, top, 40, n(3), api.OpInts, api.OpDup, n(1), n(top), api.OpStore, n(1), api.OpLoad)
	has(t, []api.Obj{wordsOf(7, 0, 200)}, 200, 40, n(3), api.OpInts, in(api.OpSet, 3), in(api.OpGet, 3), n(2), n(200), api.OpStore, in(api.OpGet, 3), n(0), n(7), api.OpStore, in(api.OpGet, 3), n(2), api.OpLoad)
	has(t, []api.Obj{wordsOf(0), wordsOf(7)}, 0, 48, n(1), api.OpInts, n(1), api.OpInts, n(0), n(7), api.OpStore, n(0), api.OpLoad)
	last := make([]uint64, 64)
	last[63] = 1 << 63
	has(t, []api.Obj{wordsOf(last...)}, 1<<63, 528, n(64), api.OpInts, api.OpDup, n(64), n(1), api.OpSub, n(1<<63), api.OpStore, n(64), n(1), api.OpSub, api.OpLoad)
}

func TestLoadBAndStoreB(t *testing.T) {
	has(t, []api.Obj{bytesOf("\xc8i")}, 200, 18, api.OpText, api.OpDup, n(0), n(200), api.OpStoreB, n(0), api.OpLoadB)
	has(t, []api.Obj{bytesOf("h\xff")}, 255, 18, api.OpText, api.OpDup, n(1), n(top), api.OpStoreB, n(1), api.OpLoadB)
	has(t, []api.Obj{bytesOf("\x00i")}, 0, 18, api.OpText, api.OpDup, n(0), n(1<<32), api.OpStoreB, n(0), api.OpLoadB)
	has(t, []api.Obj{bytesOf("hx")}, 0x78, 18, api.OpText, api.OpDup, n(1), n(0x12345678), api.OpStoreB, n(1), api.OpLoadB)
	has(t, []api.Obj{bytesOf("\x00\xff\x80")}, 0x80, 19, in(api.OpText, 2), n(2), api.OpLoadB)
	has(t, []api.Obj{bytesOf("\x07"), bytesOf("hi")}, 2, 35, n(1), api.OpBytes, api.OpText, api.OpSwap, n(0), n(7), api.OpStoreB)
}

func TestLen(t *testing.T) {
	has(t, []api.Obj{wordsOf()}, 0, 16, n(0), api.OpInts, api.OpLen)
	has(t, []api.Obj{wordsOf(make([]uint64, 64)...)}, 64, 528, n(64), api.OpInts, api.OpLen)
	has(t, []api.Obj{bytesOf("")}, 0, 16, n(0), api.OpBytes, api.OpLenB)
	has(t, []api.Obj{bytesOf("hi")}, 2, 18, api.OpText, api.OpLenB)
	has(t, []api.Obj{bytesOf(strings.Repeat("\x00", 64))}, 64, 80, n(64), api.OpBytes, api.OpLenB)
	has(t, []api.Obj{bytesOf("hi"), wordsOf(0)}, 2, 42, api.OpText, n(1), api.OpInts, api.OpPop, api.OpLenB)
}

func TestOutOfBounds(t *testing.T) {
	for _, c := range []struct {
		make  []api.Instr
		used  int
		first uint64
	}{{code(n(0), api.OpInts), 16, 0}, {code(n(3), api.OpInts), 40, 3}, {code(n(64), api.OpInts), 528, 64}} {
		for _, v := range ints() {
			if v < c.first {
				continue
			}
			traps(t, api.TrapBounds, 1000, c.used, c.make, n(v), api.OpLoad)
			traps(t, api.TrapBounds, 1000, c.used, c.make, n(v), n(1), api.OpStore)
		}
	}
	for _, c := range []struct {
		make  []api.Instr
		used  int
		first uint64
	}{{code(in(api.OpText, 1)), 16, 0}, {code(api.OpText), 18, 2}, {code(n(64), api.OpBytes), 80, 64}} {
		for _, v := range ints() {
			if v < c.first {
				continue
			}
			traps(t, api.TrapBounds, 1000, c.used, c.make, n(v), api.OpLoadB)
			traps(t, api.TrapBounds, 1000, c.used, c.make, n(v), n(1), api.OpStoreB)
		}
	}
}

func TestNullHasNothing(t *testing.T) {
	for _, v := range ints() { // ahead of asking where
		traps(t, api.TrapNull, 50, 18, api.OpText, api.OpNull, n(v), api.OpLoad)
		traps(t, api.TrapNull, 50, 18, api.OpText, api.OpNull, n(v), n(1), api.OpStore)
		traps(t, api.TrapNull, 50, 18, api.OpText, api.OpNull, n(v), api.OpLoadB)
		traps(t, api.TrapNull, 50, 18, api.OpText, api.OpNull, n(v), n(1), api.OpStoreB)
	}
	for field := range 6 {
		traps(t, api.TrapNull, 50, 16, in(api.OpNew, 1), api.OpNull, in(api.OpField, 2, field))
	}
	traps(t, api.TrapNull, 50, 16, in(api.OpNew, 1), api.OpNull, n(7), in(api.OpPut))
	traps(t, api.TrapNull, 50, 16, in(api.OpNew, 1), in(api.OpGet, 1), api.OpNull, in(api.OpPut, 0, 1))
	traps(t, api.TrapNull, 50, 16, in(api.OpNew, 1), api.OpNull, api.OpLen)
	traps(t, api.TrapNull, 50, 16, in(api.OpNew, 1), api.OpNull, api.OpLenB)
	traps(t, api.TrapNull, 50, 0, in(api.OpGet, 2), api.OpLenB)
}

func TestDivisionByZero(t *testing.T) {
	for _, v := range ints() {
		traps(t, api.TrapDiv, 50, 18, api.OpText, n(v), n(0), api.OpDiv)
		traps(t, api.TrapDiv, 50, 18, api.OpText, n(v), n(0), api.OpRem)
	}
}

func TestIsNull(t *testing.T) {
	comes(t, 1, api.OpNull, api.OpIsNull, api.OpRet)
	comes(t, 0, api.OpText, api.OpIsNull, api.OpRet)
	comes(t, 0, in(api.OpNew, 1), api.OpIsNull, api.OpRet)
	comes(t, 0, n(0), api.OpInts, api.OpIsNull, api.OpRet)
	comes(t, 1, in(api.OpText), in(api.OpGet, 5), api.OpIsNull, api.OpRet)
	comes(t, 0, api.OpText, in(api.OpSet, 5), in(api.OpGet, 5), api.OpIsNull, api.OpRet)
}

func TestSame(t *testing.T) {
	comes(t, 1, api.OpNull, api.OpNull, api.OpSame, api.OpRet)
	comes(t, 0, api.OpNull, api.OpText, api.OpSame, api.OpRet)
	comes(t, 0, api.OpText, api.OpNull, api.OpSame, api.OpRet)
	comes(t, 0, api.OpText, api.OpText, api.OpSame, api.OpRet) // two, though they are alike
	comes(t, 1, api.OpText, api.OpDup, api.OpSame, api.OpRet)
	comes(t, 1, api.OpText, api.OpDup, in(api.OpSet, 5), in(api.OpGet, 5), api.OpSame, api.OpRet)
	comes(t, 0, in(api.OpNew, 1), n(0), api.OpInts, api.OpSame, api.OpRet)
	comes(t, 1, in(api.OpGet, 2), in(api.OpGet, 1), api.OpSame, api.OpRet)
}
