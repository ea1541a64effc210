package kind

import (
	"bytes"
	"encoding/binary"
	"math"
	"slices"
	"testing"

	"chrysalis/api"
	"chrysalis/num"
)

// ty: a type by its two numbers.
func ty(kind, n int) api.Type { return api.Type{Kind: kind, N: n} }

// kinds: those that there are, those beside them, and those far off.
func kinds() []int {
	out := []int{math.MinInt, math.MinInt32, -256, -8, math.MaxInt32, math.MaxInt, 127, 128, 255, 256, 257, 258}
	for k := -2; k <= 18; k++ {
		out = append(out, k)
	}
	return out
}

// ns: both sides of each bound that an N has, and those far off.
func ns() []int {
	return []int{math.MinInt, math.MinInt32, -256, -2, -1, 0, 1, 2, 3, 4, 5, 7, 8, 9, 127, 128, 254, 255, 256, 257, math.MaxInt32, math.MaxInt}
}

// counts: numbers of records, below 0 and far off too.
func counts() []int {
	return []int{math.MinInt, -256, -1, 0, 1, 2, 3, 8, 9, 255, 256, 257, 1000, math.MaxInt32, math.MaxInt}
}

// types: all of kinds with all of ns.
func types() []api.Type {
	var out []api.Type
	for _, k := range kinds() {
		for _, n := range ns() {
			out = append(out, ty(k, n))
		}
	}
	return out
}

// bound: how many Ns a good type of that kind can have, from 0 on.
func bound(kind, recs int) int {
	bounds := map[int]int{1: 1, 2: 1, 3: 1, 4: recs, 5: 4, 7: 1}
	return bounds[kind]
}

// reference: whether the chapter counts that kind among them.
func reference(kind int) bool { return slices.Contains([]int{2, 3, 4, 6, 7}, kind) }

func TestGoodOfEachKind(t *testing.T) {
	for _, c := range []struct {
		t    api.Type
		recs int
		want bool
	}{
		{ty(api.Int, 0), 0, true}, {ty(api.Bytes, 0), 0, true}, {ty(api.Ints, 0), 0, true}, {ty(api.Any, 0), 0, true},
		{ty(api.Int, 0), -1, true}, {ty(api.Bytes, 0), -1, true}, {ty(api.Ints, 0), -1, true}, {ty(api.Any, 0), -1, true},
		{ty(api.Int, 1), 8, false}, {ty(api.Bytes, 1), 8, false}, {ty(api.Ints, 1), 8, false}, {ty(api.Any, 1), 8, false},
		{ty(api.Int, -1), 8, false}, {ty(api.Bytes, -1), 8, false}, {ty(api.Ints, -1), 8, false}, {ty(api.Any, -1), 8, false},
		{ty(api.Rec, 0), 1, true}, {ty(api.Rec, 7), 8, true}, {ty(api.Rec, 8), 8, false}, {ty(api.Rec, 1), 1, false},
		{ty(api.Rec, 0), 0, false}, {ty(api.Rec, 0), -1, false}, {ty(api.Rec, -1), 8, false}, {ty(api.Rec, -1), 0, false},
		{ty(api.Rec, -2), -1, false}, {ty(api.Rec, 8), 9, true}, {ty(api.Rec, 255), 256, true}, {ty(api.Rec, 256), 257, true},
		{ty(api.Rec, math.MaxInt-1), math.MaxInt, true}, {ty(api.Rec, math.MaxInt), math.MaxInt, false}, {ty(api.Rec, math.MinInt), math.MinInt, false},
		{ty(api.Han, 0), 0, true}, {ty(api.Han, api.MaxKinds-1), 0, true}, {ty(api.Han, api.MaxKinds), 0, false}, {ty(api.Han, -1), 8, false},
		{ty(api.Han, 3), -1, true}, {ty(api.Han, 4), 8, false},
		{ty(api.Null, 0), 8, false}, {ty(api.Null, 1), 8, false}, {ty(api.None, 0), 8, false}, {ty(api.None, 1), 8, false},
		{ty(0, 0), 8, false}, {ty(9, 0), 8, false}, {ty(-1, 0), 8, false}, {ty(257, 0), 8, false}, {ty(math.MaxInt, 0), 8, false}, {ty(math.MinInt, 0), 8, false},
	} {
		if got := Good(c.t, c.recs); got != c.want {
			t.Errorf("Good(%v, %d): %v", c.t, c.recs, got)
		}
	}
}

func TestGoodOfAllTypes(t *testing.T) {
	for _, x := range types() {
		for _, recs := range counts() {
			want := x.N >= 0 && x.N < bound(x.Kind, recs)
			if got := Good(x, recs); got != want {
				t.Errorf("Good(%v, %d): %v", x, recs, got)
			}
		}
	}
}

func TestRefOfAllTypes(t *testing.T) {
	for _, x := range types() {
		if got := Ref(x); got != reference(x.Kind) {
			t.Errorf("Ref(%v): %v", x, got)
		}
	}
}

func TestSubOfAFewPairs(t *testing.T) {
	for _, c := range []struct {
		a, b api.Type
		want bool
	}{
		// a is b, whatever it is
		{ty(api.Int, 0), ty(api.Int, 0), true}, {ty(api.Rec, 3), ty(api.Rec, 3), true}, {ty(api.Han, 2), ty(api.Han, 2), true},
		{ty(0, 0), ty(0, 0), true}, {ty(99, -7), ty(99, -7), true}, {ty(api.Int, 5), ty(api.Int, 5), true}, {ty(-1, 1), ty(-1, 1), true},
		// nearly, but not
		{ty(api.Int, 0), ty(api.Int, 1), false}, {ty(api.Rec, 0), ty(api.Rec, 1), false}, {ty(api.Han, 0), ty(api.Han, 1), false},
		{ty(api.Int, 0), ty(api.Han, 0), false}, {ty(api.Bytes, 0), ty(api.Ints, 0), false}, {ty(api.Bytes, 0), ty(api.Bytes, 1), false}, {ty(0, 0), ty(9, 0), false},
		// None above all, and below none but itself
		{ty(api.Int, 0), ty(api.None, 0), true}, {ty(api.Han, 1), ty(api.None, 0), true}, {ty(api.Null, 4), ty(api.None, -2), true},
		{ty(0, 0), ty(api.None, 0), true}, {ty(99, 0), ty(api.None, 7), true}, {ty(api.None, 1), ty(api.None, 2), true},
		{ty(api.None, 0), ty(api.Int, 0), false}, {ty(api.None, 0), ty(api.Any, 0), false}, {ty(api.None, 0), ty(api.Null, 0), false}, {ty(api.None, 0), ty(0, 0), false},
		// Null of any N below every reference, and no other
		{ty(api.Null, 0), ty(api.Bytes, 0), true}, {ty(api.Null, 0), ty(api.Ints, 0), true}, {ty(api.Null, 0), ty(api.Rec, 5), true}, {ty(api.Null, 0), ty(api.Any, 0), true},
		{ty(api.Null, 9), ty(api.Bytes, 0), true}, {ty(api.Null, -1), ty(api.Rec, 0), true}, {ty(api.Null, 1), ty(api.Null, 2), true}, {ty(api.Null, math.MinInt), ty(api.Ints, 0), true},
		{ty(api.Null, 0), ty(api.Int, 0), false}, {ty(api.Null, 0), ty(api.Han, 0), false}, {ty(api.Null, 0), ty(0, 0), false}, {ty(api.Null, 0), ty(9, 0), false},
		{ty(api.Bytes, 0), ty(api.Null, 0), false}, {ty(api.Any, 0), ty(api.Null, 0), false}, {ty(api.Int, 0), ty(api.Null, 0), false},
		// Any above every reference, and no other
		{ty(api.Bytes, 0), ty(api.Any, 0), true}, {ty(api.Ints, 0), ty(api.Any, 0), true}, {ty(api.Rec, 2), ty(api.Any, 0), true}, {ty(api.Any, 0), ty(api.Any, 1), true}, {ty(api.Rec, -1), ty(api.Any, 6), true},
		{ty(api.Int, 0), ty(api.Any, 0), false}, {ty(api.Han, 0), ty(api.Any, 0), false}, {ty(0, 0), ty(api.Any, 0), false}, {ty(9, 0), ty(api.Any, 0), false},
		{ty(api.Any, 0), ty(api.Bytes, 0), false}, {ty(api.Any, 0), ty(api.Ints, 0), false}, {ty(api.Any, 0), ty(api.Rec, 0), false}, {ty(api.Any, 0), ty(api.Int, 0), false},
	} {
		if got := Sub(c.a, c.b); got != c.want {
			t.Errorf("Sub(%v, %v): %v", c.a, c.b, got)
		}
	}
}

// below: Sub once more, by what stands below each kind.
func below(a, b api.Type) bool {
	switch b.Kind {
	case 8:
		return true
	case 7:
		return reference(a.Kind)
	case 2, 3, 4, 6:
		return a.Kind == 6 || a.Kind == b.Kind && a.N == b.N
	}
	return a.Kind == b.Kind && a.N == b.N
}

func TestSubAndJoinOfAllPairs(t *testing.T) {
	all := types()
	for _, a := range all {
		for _, b := range all {
			if got := Sub(a, b); got != below(a, b) {
				t.Fatalf("Sub(%v, %v): %v", a, b, got)
			}
			want := ty(8, 0)
			switch {
			case below(a, b):
				want = b
			case below(b, a):
				want = a
			case reference(a.Kind) && reference(b.Kind):
				want = ty(7, 0)
			}
			if got := Join(a, b); got != want {
				t.Fatalf("Join(%v, %v): %v, not %v", a, b, got, want)
			}
		}
	}
}

func TestJoinOfAFewPairs(t *testing.T) {
	for _, c := range []struct{ a, b, want api.Type }{
		{ty(api.Null, 0), ty(api.Bytes, 0), ty(api.Bytes, 0)}, // the chapter's example
		{ty(api.Bytes, 0), ty(api.Null, 0), ty(api.Bytes, 0)},
		{ty(api.Null, 5), ty(api.Rec, 3), ty(api.Rec, 3)}, {ty(api.Rec, 3), ty(api.Null, 5), ty(api.Rec, 3)},
		{ty(api.Int, 0), ty(api.Int, 0), ty(api.Int, 0)}, {ty(api.Han, 3), ty(api.Han, 3), ty(api.Han, 3)}, {ty(99, 9), ty(99, 9), ty(99, 9)},
		{ty(api.Bytes, 0), ty(api.Ints, 0), ty(api.Any, 0)}, {ty(api.Rec, 1), ty(api.Rec, 2), ty(api.Any, 0)}, {ty(api.Rec, 1), ty(api.Ints, 0), ty(api.Any, 0)}, {ty(api.Bytes, 1), ty(api.Bytes, 2), ty(api.Any, 0)},
		{ty(api.Any, 0), ty(api.Rec, 2), ty(api.Any, 0)}, {ty(api.Rec, 2), ty(api.Any, 0), ty(api.Any, 0)}, {ty(api.Any, 0), ty(api.Null, 0), ty(api.Any, 0)},
		{ty(api.Int, 0), ty(api.Bytes, 0), ty(api.None, 0)}, {ty(api.Int, 0), ty(api.Any, 0), ty(api.None, 0)}, {ty(api.Null, 0), ty(api.Han, 0), ty(api.None, 0)},
		{ty(api.Int, 0), ty(api.Int, 1), ty(api.None, 0)}, {ty(api.Han, 0), ty(api.Han, 1), ty(api.None, 0)}, {ty(0, 0), ty(9, 0), ty(api.None, 0)},
		{ty(api.None, 0), ty(api.Int, 0), ty(api.None, 0)}, {ty(api.Bytes, 0), ty(api.None, 0), ty(api.None, 0)}, {ty(api.None, 4), ty(api.Null, 0), ty(api.None, 4)}, {ty(0, 0), ty(api.None, 4), ty(api.None, 4)},
		// both ways round would do: b ahead of a
		{ty(api.Null, 1), ty(api.Null, 2), ty(api.Null, 2)}, {ty(api.Any, 1), ty(api.Any, 2), ty(api.Any, 2)}, {ty(api.None, 1), ty(api.None, 2), ty(api.None, 2)},
	} {
		if got := Join(c.a, c.b); got != c.want {
			t.Errorf("Join(%v, %v): %v, not %v", c.a, c.b, got, c.want)
		}
	}
}

func TestPutOfAFewTypes(t *testing.T) {
	for _, c := range []struct {
		t    api.Type
		want []byte
	}{
		{ty(api.Int, 0), []byte{1, 0}}, {ty(api.Rec, 2), []byte{4, 2}}, {ty(api.Han, 3), []byte{5, 3}}, {ty(api.None, 0), []byte{8, 0}}, {ty(0, 0), []byte{0, 0}},
		{ty(api.Rec, 127), []byte{4, 0x7f}}, {ty(api.Rec, 128), []byte{4, 0x80, 1}}, {ty(api.Rec, 255), []byte{4, 0xff, 1}}, {ty(api.Rec, 256), []byte{4, 0x80, 2}},
		{ty(300, 300), []byte{0xac, 2, 0xac, 2}},
		{ty(-1, 3), []byte{0, 3}}, {ty(3, -1), []byte{3, 0}}, {ty(-1, -1), []byte{0, 0}}, {ty(math.MinInt, math.MinInt), []byte{0, 0}},
		{ty(math.MaxInt32, 1), []byte{0xff, 0xff, 0xff, 0xff, 7, 1}},
	} {
		if got := Put(c.t); !bytes.Equal(got, c.want) {
			t.Errorf("Put(%v): % x", c.t, got)
		}
	}
}

// written: a Put, written once more by the library's own numbers.
func written(x api.Type) []byte {
	var out []byte
	for _, n := range []int{x.Kind, x.N} {
		if n < 0 {
			n = 0
		}
		out = binary.AppendUvarint(out, uint64(n))
	}
	return out
}

func TestPutOfAllTypes(t *testing.T) {
	for _, x := range types() {
		if got := Put(x); !bytes.Equal(got, written(x)) {
			t.Errorf("Put(%v): % x", x, got)
		}
	}
}

func TestPutAnswersNewMemory(t *testing.T) {
	for _, x := range types() {
		a, b := Put(x), Put(x)
		a = a[:cap(a)]
		for i := range a {
			a[i] ^= 0xff
		}
		if !bytes.Equal(b, written(x)) || !bytes.Equal(Put(x), written(x)) {
			t.Fatalf("Put(%v) shares its bytes", x)
		}
	}
}

func TestGetOfWhatPutWrote(t *testing.T) {
	for _, x := range types() {
		for _, recs := range counts() {
			r := num.NewReader(append(Put(x), 0x55, 0xff))
			told := ty(max(x.Kind, 0), max(x.N, 0))
			good := told.N < bound(told.Kind, recs) && told.N <= 255
			got, ok := Get(r, recs)
			if ok != good || !ok && got != (api.Type{}) || ok && got != told {
				t.Errorf("Get(Put(%v), %d): %v, %v", x, recs, got, ok)
			}
			if ok && (r.Bad() || !bytes.Equal(r.Take(r.Left()), []byte{0x55, 0xff})) {
				t.Errorf("Get(Put(%v), %d) takes what stands behind it", x, recs)
			}
		}
	}
}

func TestGetOneBehindTheOther(t *testing.T) {
	list := []api.Type{ty(api.Int, 0), ty(api.Rec, 255), ty(api.Rec, 0), ty(api.Han, 3), ty(api.Any, 0), ty(api.Rec, 128), ty(api.Bytes, 0), ty(api.Ints, 0)}
	var b []byte
	for _, x := range list {
		b = append(b, Put(x)...)
	}
	r := num.NewReader(b)
	for i, x := range list {
		if got, ok := Get(r, 256); !ok || got != x {
			t.Errorf("type %d: %v, %v", i, got, ok)
		}
	}
	if r.Bad() || r.Left() != 0 {
		t.Error("not all of it was taken, or too much")
	}
	if got, ok := Get(r, 256); ok || got != (api.Type{}) {
		t.Errorf("a type behind the last one: %v, %v", got, ok)
	}
}

// refused: that Get makes nothing of b, with any number of records.
func refused(t *testing.T, b []byte) {
	t.Helper()
	for _, recs := range counts() {
		if got, ok := Get(num.NewReader(b), recs); ok || got != (api.Type{}) {
			t.Errorf("Get(% x, %d): %v, %v", b, recs, got, ok)
		}
	}
}

func TestGetOfAReaderThatIsBad(t *testing.T) {
	for _, recs := range counts() {
		if got, ok := Get(nil, recs); ok || got != (api.Type{}) {
			t.Errorf("of nil: %v, %v", got, ok)
		}
		r := num.NewReader([]byte{1, 0, 1, 0})
		r.Take(5)
		if got, ok := Get(r, recs); ok || got != (api.Type{}) {
			t.Errorf("of one that is bad: %v, %v", got, ok)
		}
		if got, ok := Get(new(num.Reader), recs); ok || got != (api.Type{}) {
			t.Errorf("of none that was made: %v, %v", got, ok)
		}
	}
}

func TestGetOfBytesThatAreCutOff(t *testing.T) {
	for _, x := range types() {
		b := Put(x)
		for n := range len(b) {
			refused(t, b[:n])
		}
	}
}

func TestGetOfNumbersInAnotherForm(t *testing.T) {
	refused(t, []byte{0x81, 0, 0})                                                       // Int, longer than it has to be
	refused(t, []byte{1, 0x80, 0})                                                       // and its N
	refused(t, []byte{4, 0x83, 0})                                                       // a record
	refused(t, []byte{4, 0xff, 0x81, 0})                                                 //
	refused(t, []byte{0x84, 0x80, 0, 0})                                                 //
	refused(t, []byte{0x81, 0x80, 0x80, 0x80, 0x80, 0x80, 0x80, 0x80, 0x80, 2, 0})       // above 2^64 - 1
	refused(t, []byte{4, 0x81, 0x80, 0x80, 0x80, 0x80, 0x80, 0x80, 0x80, 0x80, 2})       //
	refused(t, []byte{0x81, 0x80, 0x80, 0x80, 0x80, 0x80, 0x80, 0x80, 0x80, 0x80, 0, 0}) // eleven bytes
	refused(t, []byte{1, 0x80, 0x80, 0x80, 0x80, 0x80, 0x80, 0x80, 0x80, 0x80, 0x80, 0}) //
	refused(t, []byte{0x81})                                                             // more is told than there is
	refused(t, []byte{1, 0x80})                                                          //
	refused(t, bytes.Repeat([]byte{0xff}, 40))                                           //
	refused(t, bytes.Repeat([]byte{0x80}, 40))                                           //
}

// far: numbers that are good ones in their lowest bits alone.
func far(low uint64) []uint64 {
	var out []uint64
	for _, high := range []uint64{1 << 8, 1 << 16, 1 << 31, 1 << 32, 1 << 33, 1 << 62, 1 << 63, math.MaxUint64 &^ 0xff, math.MaxUint64 &^ math.MaxUint32} {
		out = append(out, high|low)
	}
	return out
}

func TestGetOfNumbersFarBeyond(t *testing.T) {
	for _, k := range []uint64{1, 2, 3, 4, 5, 7} {
		for _, n := range []uint64{0, 1, 3} {
			for _, x := range far(k) {
				refused(t, append(num.Var(x), num.Var(n)...))
			}
			for _, x := range far(n) {
				refused(t, append(num.Var(k), num.Var(x)...))
			}
		}
	}
	refused(t, append(num.Var(math.MaxUint64), num.Var(math.MaxUint64)...))
	refused(t, append(num.Var(api.Int), num.Var(math.MaxUint64)...))
	refused(t, append(num.Var(math.MaxUint64), num.Var(0)...))
}

func TestGetOfAllShortBytes(t *testing.T) {
	for _, recs := range []int{-1, 0, 1, 2, 8, 128, 256, 300} {
		want := map[string]api.Type{}
		for k := range 10 {
			for n := range min(bound(k, recs), 256) {
				want[string(written(ty(k, n)))] = ty(k, n)
			}
		}
		for a := range 256 {
			for b := range 256 {
				for _, tail := range [][]byte{nil, {0}, {1}, {2}, {0x7f}, {0x80}, {0xff}} {
					text := append([]byte{byte(a), byte(b)}, tail...)
					x, there := want[string(text[:2])]
					if !there {
						x, there = want[string(text)]
					}
					if got, ok := Get(num.NewReader(text), recs); ok != there || got != x {
						t.Fatalf("Get(% x, %d): %v, %v", text, recs, got, ok)
					}
				}
			}
		}
	}
}

func TestAgainTheSame(t *testing.T) {
	for _, x := range types() {
		y := ty(x.N, x.Kind)
		good, sub, join, ref, put := Good(x, 3), Sub(x, y), Join(x, y), Ref(x), Put(x)
		got, ok := Get(num.NewReader(put), 3)
		if good != Good(x, 3) || sub != Sub(x, y) || join != Join(x, y) || ref != Ref(x) || !bytes.Equal(put, Put(x)) {
			t.Fatalf("%v, %v: another answer", x, y)
		}
		if again, there := Get(num.NewReader(put), 3); again != got || there != ok {
			t.Fatalf("%v: Get has another answer", x)
		}
	}
}
