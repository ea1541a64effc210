package state

import (
	"math"
	"slices"
	"testing"

	"chrysalis/api"
	"chrysalis/kind"
)

// asks: that Typed says so of s, changed so, which is typed else.
func asks(t *testing.T, want bool, m api.Module, maps [][]api.Shape, s api.State, change func(*api.State)) {
	t.Helper()
	s = roomy(s, 0)
	says(t, true, m, maps, s)
	change(&s)
	says(t, want, m, maps, s)
}

// small: a program that calls itself, and its Shapes.
func small(t *testing.T) (api.Module, [][]api.Shape) {
	m := bare(api.Func{Ret: number, Code: code(in(api.OpCall, 0), api.OpRet)})
	return m, checked(t, m)
}

// eachSort: states of small: going, done, and at each trap.
func eachSort() []api.State {
	out := []api.State{going(at(0, 0, nil, nil)), going(at(0, 1, nil, nil), at(0, 1, nil, w(5))), ended(api.Done, 0), ended(api.Done, top)}
	for end := api.TrapDiv; end <= api.TrapClosed; end++ {
		out = append(out, ended(end, 0))
	}
	return out
}

func TestQuotaAndUsed(t *testing.T) {
	m, maps := small(t)
	for _, s := range eachSort() {
		for _, quota := range append(strangeNumbers(), 0, 1, 2, 1000, api.MaxQuota-1, api.MaxQuota, api.MaxQuota+1) {
			for _, used := range append(strangeNumbers(), 0, 1, 2, 999, 1000, 1001, api.MaxQuota-1, api.MaxQuota, api.MaxQuota+1, quota-1, quota, quota+1) {
				want := 0 <= used && used <= quota && quota <= api.MaxQuota
				asks(t, want, m, maps, s, func(c *api.State) { c.Quota, c.Used = quota, used })
			}
		}
	}
}

// What is used has nothing to do with what there is: objects may be gone, and numbers come from anywhere.
func TestUsedIsNotCounted(t *testing.T) {
	m, maps := small(t)
	s := going(at(0, 0, nil, nil))
	s.Quota, s.Used = 0, 0
	says(t, true, m, maps, s)
	s.Heap = many(api.MaxObjs, api.Obj{Kind: api.Ints, Words: make([]uint64, api.MaxLen)})
	says(t, true, m, maps, s)
	s.Heap, s.Quota, s.Used = nil, api.MaxQuota, api.MaxQuota
	says(t, true, m, maps, s)
}

func TestEnds(t *testing.T) {
	m, maps := small(t)
	for _, end := range append(strangeNumbers(), 0, 1, 2, 3, 4, 5, 6, 7, 8, 9, 10) {
		isEnd := end >= api.Done && end <= api.TrapClosed
		for _, value := range w(0, 1, 3, 1<<32, 1<<63, top) {
			says(t, isEnd && (value == 0 || end == api.Done), m, maps, ended(end, value))
			s := going(at(0, 0, nil, nil))
			s.End, s.Value = end, value
			says(t, end == api.Going && value == 0, m, maps, s)
			s.Frames = nil
			says(t, false, m, maps, s)
			s.Frames, s.Heap = []api.Frame{{}}, nil
			says(t, end == api.Going && value == 0, m, maps, s)
			s = ended(end, value)
			s.Heap = []api.Obj{{Kind: api.Ints}}
			says(t, false, m, maps, s)
			s.Heap, s.Frames = nil, []api.Frame{}
			says(t, isEnd && (value == 0 || end == api.Done), m, maps, s)
			s.Frames = make([]api.Frame, 1)
			says(t, end == api.Going && value == 0, m, maps, s)
		}
	}
	says(t, true, m, maps, api.State{End: api.Done})
	says(t, true, m, maps, api.State{End: api.TrapClosed, Heap: []api.Obj{}})
	says(t, false, m, maps, api.State{})
}

func TestHandles(t *testing.T) {
	m, maps := small(t)
	for _, s := range eachSort() {
		for _, kind := range append(strangeNumbers(), 0, 1, 2, 3, 4, 5) {
			want := kind >= 0 && kind < api.MaxKinds
			for _, open := range []bool{false, true} {
				for _, desc := range w(0, 5, top) {
					asks(t, want, m, maps, s, func(c *api.State) { c.Hans = append(c.Hans, api.Handle{Kind: kind, Desc: desc, Open: open}) })
				}
			}
			asks(t, want, m, maps, s, func(c *api.State) { c.Hans[0].Kind = kind }) // nobody has it
		}
		for count := len(handles()); count < api.MaxHans+4; count++ {
			for _, h := range []api.Handle{{}, {Kind: 3, Desc: top, Open: true}} {
				asks(t, count <= api.MaxHans, m, maps, s, func(c *api.State) { c.Hans = append(c.Hans, many(count-len(c.Hans), h)...) })
			}
		}
		for n := range api.MaxHans { // each of them is asked
			asks(t, false, m, maps, s, func(c *api.State) {
				c.Hans = append(c.Hans, make([]api.Handle, api.MaxHans-len(c.Hans))...)
				c.Hans[n].Kind = api.MaxKinds
			})
		}
	}
	s := ended(api.Done, 1)
	s.Hans = nil
	says(t, true, m, maps, s)
}

// object: that an object may stand alone, behind others, and between them, or that it may not.
func object(t *testing.T, want bool, m api.Module, maps [][]api.Shape, o api.Obj) {
	t.Helper()
	s := api.State{Frames: []api.Frame{{}}, Heap: []api.Obj{o}, Hans: handles()}
	says(t, want, m, maps, s)
	s.Heap = []api.Obj{{Kind: api.Bytes}, {Kind: api.Ints}, o}
	says(t, want, m, maps, s)
	s.Heap = append(s.Heap, api.Obj{Kind: api.Bytes})
	says(t, want, m, maps, s)
}

func TestBytesAndInts(t *testing.T) {
	m := prog(back())
	maps := checked(t, m)
	for _, count := range []int{0, 1, 2, 6, 31, 32, 33, api.MaxLen - 1, api.MaxLen, api.MaxLen + 1, api.MaxLen + 2, 128, 256, 320, 1 << 16, 1<<16 + 1} {
		short := count <= api.MaxLen
		for _, fill := range []byte{0, 1, 255} {
			words, bytes := many(count, uint64(fill)<<56|uint64(fill)), many(count, fill)
			object(t, short, m, maps, api.Obj{Kind: api.Bytes, Bytes: bytes})
			object(t, short, m, maps, api.Obj{Kind: api.Ints, Words: words})
			object(t, short && count == 0, m, maps, api.Obj{Kind: api.Bytes, Words: words})
			object(t, short && count == 0, m, maps, api.Obj{Kind: api.Ints, Bytes: bytes})
			object(t, short && count == 0, m, maps, api.Obj{Kind: api.Bytes, Bytes: bytes, Words: words})
			object(t, short && count == 0, m, maps, api.Obj{Kind: api.Ints, Bytes: bytes, Words: words})
			object(t, count == 0, m, maps, api.Obj{Kind: api.Bytes, Bytes: []byte("x"), Words: words})
			object(t, count == 0, m, maps, api.Obj{Kind: api.Ints, Bytes: bytes, Words: w(5)})
		}
	}
	for _, n := range append(strangeNumbers(), -1, 1, 2, 3, 4) {
		object(t, false, m, maps, api.Obj{Kind: api.Bytes, N: n})
		object(t, false, m, maps, api.Obj{Kind: api.Ints, N: n})
		object(t, false, m, maps, api.Obj{Kind: api.Bytes, N: n, Bytes: []byte("x")})
		object(t, false, m, maps, api.Obj{Kind: api.Ints, N: n, Words: w(1)})
	}
}

// Nothing else is an object.
func TestOtherKindsOfObjects(t *testing.T) {
	m := prog(back())
	maps := checked(t, m)
	for _, k := range append(strangeNumbers(), -1, 0, 1, 2, 3, 4, 5, 6, 7, 8, 9, 10) {
		for _, n := range []int{math.MinInt, -1, 0, 1, 2, 256} {
			want := k == api.Rec && n == 1 || n == 0 && (k == api.Bytes || k == api.Ints)
			object(t, want, m, maps, api.Obj{Kind: k, N: n})
			object(t, want && k == api.Bytes, m, maps, api.Obj{Kind: k, N: n, Bytes: []byte{1}})
			object(t, want && k == api.Ints, m, maps, api.Obj{Kind: k, N: n, Words: w(1)})
		}
	}
}

func TestRecords(t *testing.T) {
	m := prog(back())
	for n := range api.MaxRecs + 1 {
		m.Recs = nil
		for k := range n {
			m.Recs = append(m.Recs, many(k%(api.MaxFields+1), number))
		}
		maps := checked(t, m)
		for _, k := range append(strangeNumbers(), -2, -1, 0, 1, 2, 3, 4, 5, 6, 7, 8, 9) {
			there := k >= 0 && k < n
			for count := range api.MaxFields + 3 {
				want := there && count == len(m.Recs[k])
				object(t, want, m, maps, api.Obj{Kind: api.Rec, N: k, Words: many(count, uint64(top))})
				object(t, false, m, maps, api.Obj{Kind: api.Rec, N: k, Words: many(count, uint64(top)), Bytes: []byte{0}})
			}
			object(t, false, m, maps, api.Obj{Kind: api.Rec, N: k, Words: make([]uint64, 256+3)})
		}
	}
}

// Each field of each object is asked, whether anybody has the object or not.
func TestFieldsOfRecords(t *testing.T) {
	m := prog(back())
	m.Recs = [][]api.Type{{text, any0, han(1), rec(0), number, list}}
	maps := checked(t, m)
	good := w(3, 4, 1, 1, top, 4)
	s := going(at(0, 1, nil, w(5)))
	s.Heap = []api.Obj{{Kind: api.Rec, Words: good}, {Kind: api.Rec, Words: slices.Clone(good)}, {Kind: api.Bytes}, {Kind: api.Ints}}
	for n := range 2 {
		for k, bad := range w(4, 5, 0, 3, 0, 3) {
			want := m.Recs[0][k] == number
			asks(t, want, m, maps, s, func(c *api.State) { c.Heap[n].Words[k] = bad })
			if kind.Ref(m.Recs[0][k]) {
				asks(t, true, m, maps, s, func(c *api.State) { c.Heap[n].Words[k] = 0 })
			}
		}
		for k := range good { // each word stands for its own field
			asks(t, false, m, maps, s, func(c *api.State) { c.Heap[n].Words = slices.Delete(c.Heap[n].Words, k, k+1) })
			asks(t, false, m, maps, s, func(c *api.State) { c.Heap[n].Words = slices.Insert(c.Heap[n].Words, k, 0) })
		}
		asks(t, false, m, maps, s, func(c *api.State) { slices.Reverse(c.Heap[n].Words) })
	}
}

// Objects may refer to themselves, and to each other, in rings.
func TestRings(t *testing.T) {
	m := prog(back())
	maps := checked(t, m)
	s := going(at(0, 0, nil, nil))
	s.Heap = nil
	for n := range uint64(api.MaxObjs / 2) {
		s.Heap = append(s.Heap, api.Obj{Kind: api.Rec, N: 3, Words: w((n*2+2)%api.MaxObjs+1, n*2+2)}, api.Obj{Kind: api.Rec, Words: w(n, 0, 0)})
	}
	says(t, true, m, maps, s)
	s.Heap[api.MaxObjs-2].Words[0] = 2
	says(t, false, m, maps, s)
	s.Heap[api.MaxObjs-2].Words[0] = api.MaxObjs + 1
	says(t, false, m, maps, s)
	s.Heap[api.MaxObjs-2].Words[0] = api.MaxObjs - 1 // itself
	says(t, true, m, maps, s)
	s.Heap = s.Heap[:api.MaxObjs-1]
	says(t, false, m, maps, s)
}

func TestMaxObjs(t *testing.T) {
	m := prog(back())
	maps := checked(t, m)
	for _, o := range []api.Obj{{Kind: api.Bytes}, {Kind: api.Ints, Words: w(1)}, {Kind: api.Rec, N: 1}} {
		for _, count := range []int{0, 1, 255, 256, 257, api.MaxObjs - 1, api.MaxObjs, api.MaxObjs + 1, api.MaxObjs + 2, 2 * api.MaxObjs, 1 << 16, 1<<16 + 1} {
			s := going(at(0, 1, nil, w(5)))
			s.Heap = many(count, o)
			says(t, count <= api.MaxObjs, m, maps, s)
			if count > 0 {
				s.Heap[count-1].Kind = api.Null
				says(t, false, m, maps, s)
				s.Heap[count-1].Kind = o.Kind
				s.Heap[0].N = 9
				says(t, false, m, maps, s)
			}
		}
	}
}
