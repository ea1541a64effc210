package pack

import (
	"bytes"
	"encoding/binary"
	"math"
	"slices"
	"testing"

	"chrysalis/api"
)

// pattern: n bytes of all kinds, the same ones each time.
func pattern(n int) []byte {
	out := make([]byte, n)
	x := uint32(12345)
	for i := range out {
		x = x*1664525 + 1013904223
		out[i] = byte(x >> 24)
	}
	return out
}

// times: a list of n parts, all of them like part.
func times(n int, part []byte) [][]byte {
	out := make([][]byte, n)
	for i := range out {
		out[i] = bytes.Clone(part)
	}
	return out
}

// samples: lists on both sides of each change of a number's length, and parts that look like numbers.
func samples() [][][]byte {
	list := [][][]byte{
		nil,
		{},
		{nil},
		{{}},
		{nil, nil},
		{{0}},
		{{0xff}},
		{{0x80}, {0x80, 0x80}, nil, {0x80, 0}},
		{[]byte("ab"), nil, []byte("c")},
		{nil, []byte("ab"), []byte("c"), nil},
		{{0}, {1}, {2}, {3}},
		{{3, 2}, {1, 1, 1}, {0, 0}},
		{pattern(127), pattern(128), pattern(129)},
		{pattern(16383), nil, pattern(16384)},
		{pattern(1<<16 + 3)},
		times(1<<14, nil),
	}
	for n := range 20 {
		list = append(list, [][]byte{pattern(n)}, times(n, pattern(n)))
	}
	for _, n := range []int{126, 127, 128, 129, 255, 256, 300} {
		list = append(list, times(n, nil), times(n, []byte("x")), [][]byte{pattern(n)})
	}
	for _, parts := range list[:13] {
		list = append(list, [][]byte{Join(parts)}, [][]byte{Join(parts), nil, Join(parts)})
	}
	return list
}

// small: those of the samples of which every byte can be tried.
func small() [][][]byte {
	return slices.DeleteFunc(samples(), func(parts [][]byte) bool { return len(Join(parts)) > 400 })
}

// written: a Join, written once more by the library's own numbers.
func written(parts [][]byte) []byte {
	out := binary.AppendUvarint(nil, uint64(len(parts)))
	for _, p := range parts {
		out = binary.AppendUvarint(out, uint64(len(p)))
		out = append(out, p...)
	}
	return out
}

// head: numbers as Var writes them, with tail behind them.
func head(tail string, numbers ...uint64) []byte {
	var out []byte
	for _, v := range numbers {
		out = binary.AppendUvarint(out, v)
	}
	return append(out, tail...)
}

// longer: v as it is written with extra bytes more than it has to have.
func longer(v uint64, extra int) []byte {
	out := binary.AppendUvarint(nil, v)
	for range extra {
		out[len(out)-1] |= 0x80
		out = append(out, 0)
	}
	return out
}

func same(a, b [][]byte) bool {
	return slices.EqualFunc(a, b, bytes.Equal)
}

// short: as much of b as a message can bear.
func short(b []byte) []byte {
	return b[:min(len(b), 40)]
}

// mustRefuse: b is no Join of at most so many parts, and nothing stands beside the error.
func mustRefuse(t *testing.T, what string, b []byte, most int) {
	t.Helper()
	if parts, e := Split(b, most); e != api.ErrForm || len(parts) != 0 {
		t.Errorf("%s: Split of % x (%d bytes), %d: %d parts, error %d", what, short(b), len(b), most, len(parts), e)
	}
}

// mustSplit: b is the Join of want.
func mustSplit(t *testing.T, what string, b []byte, most int, want [][]byte) {
	t.Helper()
	if parts, e := Split(b, most); e != api.OK || !same(parts, want) {
		t.Errorf("%s: Split of % x (%d bytes), %d: %d parts, error %d", what, short(b), len(b), most, len(parts), e)
	}
}

// spoilRoom writes over all of b, spare room included.
func spoilRoom(b []byte) {
	b = b[:cap(b)]
	for i := range b {
		b[i] ^= 0xff
	}
}

// P3.1, Join

func TestJoinOfNone(t *testing.T) {
	for _, parts := range [][][]byte{nil, {}, make([][]byte, 0, 5)} {
		if got := Join(parts); !bytes.Equal(got, []byte{0}) {
			t.Errorf("Join of none: % x", got)
		}
	}
}

func TestJoinOfKnownParts(t *testing.T) {
	for _, c := range []struct {
		parts [][]byte
		want  string
	}{
		{[][]byte{nil}, "\x01\x00"},
		{[][]byte{{}}, "\x01\x00"},
		{[][]byte{nil, {}, nil}, "\x03\x00\x00\x00"},
		{[][]byte{{0}}, "\x01\x01\x00"},
		{[][]byte{{0xff, 0x80}}, "\x01\x02\xff\x80"},
		{[][]byte{[]byte("ab"), nil, []byte("c")}, "\x03\x02ab\x00\x01c"},
		{[][]byte{[]byte("c"), []byte("ab")}, "\x02\x01c\x02ab"},
		{[][]byte{{0}, {1, 0}, {2}}, "\x03\x01\x00\x02\x01\x00\x01\x02"},
	} {
		if got := Join(c.parts); string(got) != c.want {
			t.Errorf("Join of %q: % x, not % x", c.parts, got, c.want)
		}
	}
}

func TestJoinCountsAsVar(t *testing.T) {
	for _, c := range []struct {
		n    int
		head string
	}{
		{1, "\x01"}, {127, "\x7f"}, {128, "\x80\x01"}, {300, "\xac\x02"}, {16383, "\xff\x7f"}, {16384, "\x80\x80\x01"},
	} {
		if got := Join(times(c.n, nil)); string(got) != c.head+string(make([]byte, c.n)) {
			t.Errorf("Join of %d parts without bytes: % x, %d bytes", c.n, short(got), len(got))
		}
		part := pattern(c.n)
		if got := Join([][]byte{part}); string(got) != "\x01"+c.head+string(part) {
			t.Errorf("Join of one part of %d bytes: % x, %d bytes", c.n, short(got), len(got))
		}
	}
}

func TestJoinWritesEachPart(t *testing.T) {
	for _, parts := range samples() {
		if got := Join(parts); !bytes.Equal(got, written(parts)) {
			t.Errorf("Join of %d parts: % x, %d bytes", len(parts), short(got), len(got))
		}
	}
}

func TestJoinOfJoins(t *testing.T) {
	inner := Join([][]byte{[]byte("ab"), nil})
	got := Join([][]byte{inner, Join(nil), inner})
	if string(got) != "\x03\x05\x02\x02ab\x00\x01\x00\x05\x02\x02ab\x00" {
		t.Errorf("Join of Joins: % x", got)
	}
}

func TestJoinMakesNewMemory(t *testing.T) {
	room := []byte("one two and a good deal of room")
	was := bytes.Clone(room)
	spare := []byte("spare")
	list := [][]byte{room[:3], room[4:7], nil, room[1:1], spare}
	first, second := Join(list[:4]), Join(list[:4])
	want := bytes.Clone(second)
	if string(want) != "\x04\x03one\x03two\x00\x00" {
		t.Errorf("Join: % x", want)
	}
	spoilRoom(first)
	if !bytes.Equal(room, was) {
		t.Errorf("what was handed in was changed, or is shared: %q", room)
	}
	if !same(list, [][]byte{was[:3], was[4:7], nil, nil, []byte("spare")}) {
		t.Errorf("the list that was handed in was changed: %q", list)
	}
	spoilRoom(room)
	if !bytes.Equal(second, want) {
		t.Errorf("an answer is shared: % x", second)
	}
}

func TestJoinOfOneMakesNewMemory(t *testing.T) {
	for _, list := range [][][]byte{nil, {nil}, {make([]byte, 1, 64)}} {
		first, second := Join(list), Join(list)
		want := bytes.Clone(second)
		spoilRoom(first)
		if !bytes.Equal(second, want) || !bytes.Equal(Join(list), want) {
			t.Errorf("two answers share memory: % x", second)
		}
	}
}

// P3.1, Split

func TestSplitAnswersTheParts(t *testing.T) {
	mustSplit(t, "the example", []byte{0}, 9, nil)
	mustSplit(t, "three", []byte("\x03\x02ab\x00\x01c"), 3, [][]byte{[]byte("ab"), nil, []byte("c")})
	for _, parts := range samples() {
		mustSplit(t, "joined", written(parts), math.MaxInt, parts)
		mustSplit(t, "joined", Join(parts), len(parts), parts)
	}
}

func TestSplitOfAtMostSoMany(t *testing.T) {
	for _, parts := range samples() {
		b, n := written(parts), len(parts)
		for _, most := range []int{n, n + 1, n + 2, 2*n + 100, math.MaxInt32, math.MaxInt} {
			mustSplit(t, "just as many, or fewer", b, most, parts)
		}
		for _, most := range []int{n - 1, n / 2, 0, -1, -n, math.MinInt} {
			if most < n {
				mustRefuse(t, "more than may be", b, most)
			}
		}
	}
}

func TestSplitOfNone(t *testing.T) {
	for _, most := range []int{0, 1, 2, math.MaxInt} {
		mustSplit(t, "none", []byte{0}, most, nil)
	}
	mustRefuse(t, "one where none may be", []byte{1, 0}, 0)
	mustRefuse(t, "one with a byte where none may be", []byte{1, 1, 0}, 0)
}

func TestSplitOfFewerThanNone(t *testing.T) {
	for _, most := range []int{-1, -2, -128, math.MinInt32, math.MinInt + 1, math.MinInt} {
		for _, b := range [][]byte{nil, {0}, {1, 0}, {2, 0, 0}, head("", math.MaxUint64)} {
			mustRefuse(t, "most below 0", b, most)
		}
	}
}

func TestSplitOfNoBytes(t *testing.T) {
	for _, most := range []int{math.MinInt, -1, 0, 1, math.MaxInt} {
		mustRefuse(t, "nil", nil, most)
		mustRefuse(t, "nothing", []byte{}, most)
	}
}

func TestSplitOfJoins(t *testing.T) {
	inner := [][]byte{[]byte("ab"), nil}
	outer := [][]byte{Join(inner), Join(nil), Join([][]byte{Join(inner)})}
	b := Join(outer)
	mustSplit(t, "Joins", b, 3, outer)
	parts, _ := Split(b, 3)
	if len(parts) != 3 {
		t.Fatalf("%d parts", len(parts))
	}
	mustSplit(t, "a Join within", parts[0], 2, inner)
	mustSplit(t, "a Join of none within", parts[1], 0, nil)
	mustSplit(t, "a Join of a Join within", parts[2], 1, [][]byte{Join(inner)})
	mustRefuse(t, "Joins side by side", slices.Concat(Join(inner), Join(inner)), math.MaxInt)
}

func TestSplitOfBytesCutOff(t *testing.T) {
	for _, parts := range small() {
		b := written(parts)
		for n := range len(b) {
			mustRefuse(t, "cut off behind", b[:n], math.MaxInt)
		}
	}
	long := written([][]byte{pattern(16384), pattern(300)})
	for _, n := range []int{1, 2, 3, 4, 300, 16388, 16389, 16390, len(long) - 1} {
		mustRefuse(t, "cut off behind", long[:n], math.MaxInt)
	}
}

func TestSplitOfOneByteMore(t *testing.T) {
	for _, parts := range small() {
		b := written(parts)
		for x := range 256 {
			mustRefuse(t, "one more behind", append(bytes.Clone(b), byte(x)), math.MaxInt)
		}
		mustRefuse(t, "some more behind", append(bytes.Clone(b), 0, 0, 0), math.MaxInt)
	}
}

func TestSplitOfOtherForms(t *testing.T) {
	for _, parts := range small() {
		b := written(parts)
		count := binary.AppendUvarint(nil, uint64(len(parts)))
		for extra := 1; extra <= 12; extra++ {
			mustRefuse(t, "a count in another form", append(longer(uint64(len(parts)), extra), b[len(count):]...), math.MaxInt)
			for i, at := 0, len(count); i < len(parts); i++ {
				size := uint64(len(parts[i]))
				behind := at + len(binary.AppendUvarint(nil, size))
				spoilt := slices.Concat(b[:at], longer(size, extra), b[behind:])
				mustRefuse(t, "a length in another form", spoilt, math.MaxInt)
				at = behind + len(parts[i])
			}
		}
	}
}

func TestSplitOfNumbersThatAreNone(t *testing.T) {
	nines := bytes.Repeat([]byte{0xff}, 9)
	noughts := bytes.Repeat([]byte{0x80}, 9)
	for _, v := range [][]byte{
		append(bytes.Clone(nines), 2),
		append(bytes.Clone(nines), 0x7f),
		append(bytes.Clone(noughts), 2),                 // 2^64, of which the lowest 64 bits are 0
		append(bytes.Clone(noughts), 0x80, 1),           // 2^70
		append(append([]byte{0x81}, noughts[1:]...), 2), // 2^64 + 1
		bytes.Repeat([]byte{0xff}, 30),
		bytes.Repeat([]byte{0x80}, 30),
	} {
		for _, tail := range []string{"", "\x00", "\x01a", "a"} {
			mustRefuse(t, "a count above 2^64 - 1", append(bytes.Clone(v), tail...), math.MaxInt)
			mustRefuse(t, "a length above 2^64 - 1", slices.Concat([]byte{1}, v, []byte(tail)), math.MaxInt)
			mustRefuse(t, "a second length above 2^64 - 1", slices.Concat([]byte{2, 0}, v, []byte(tail)), math.MaxInt)
		}
	}
}

// far: numbers that are far beyond what is there, among them those whose lowest bits, or whose sign, say otherwise.
func far() []uint64 {
	return []uint64{
		1000, 1 << 16, 1<<16 + 1, 1 << 31, 1<<31 - 1, 1 << 32, 1<<32 + 1, 1<<32 + 2, 1 << 40, 1<<56 + 1,
		math.MaxInt64 - 1, math.MaxInt64, 1 << 63, 1<<63 + 1, math.MaxUint64 - 3, math.MaxUint64 - 1, math.MaxUint64,
	}
}

func TestSplitOfCountsFarBeyond(t *testing.T) {
	for _, n := range far() {
		for _, tail := range []string{"", "\x00", "\x00\x00", "\x01a", "\x01a\x00", string(make([]byte, 500))} {
			for _, most := range []int{-1, 0, 1, 2, 999, math.MaxInt32, math.MaxInt} {
				mustRefuse(t, "a count far beyond", head(tail, n), most)
			}
		}
	}
}

func TestSplitOfLengthsFarBeyond(t *testing.T) {
	for _, n := range far() {
		for _, tail := range []string{"", "a", "ab", "\x00", "\x00\x00", "\x01a", string(make([]byte, 500))} {
			mustRefuse(t, "a length far beyond", head(tail, 1, n), math.MaxInt)
			mustRefuse(t, "a first length far beyond", head(tail, 2, n), math.MaxInt)
			mustRefuse(t, "a second length far beyond", head(tail, 2, 0, n), math.MaxInt)
			mustRefuse(t, "both far beyond", head(tail, n, n), math.MaxInt)
		}
	}
}

func TestSplitOfOneTooFewOrTooMany(t *testing.T) {
	for n := range 300 {
		body := pattern(n)
		mustSplit(t, "as long as it says", head(string(body), 1, uint64(n)), 1, [][]byte{body})
		mustRefuse(t, "a length of one more", head(string(body), 1, uint64(n)+1), math.MaxInt)
		if n > 0 {
			mustRefuse(t, "a length of one less", head(string(body), 1, uint64(n)-1), math.MaxInt)
		}
		noughts := string(make([]byte, n))
		mustSplit(t, "as many as it says", head(noughts, uint64(n)), n, times(n, nil))
		mustRefuse(t, "a count of one more", head(noughts, uint64(n)+1), math.MaxInt)
		if n > 0 {
			mustRefuse(t, "a count of one less", head(noughts, uint64(n)-1), math.MaxInt)
		}
	}
}

// joins: all Joins of at most room bytes, of parts of such bytes, with how many parts they are of.
func joins(room int, of []byte) map[string]int {
	found := map[string]int{}
	var parts [][]byte
	var add func()
	add = func() {
		b := written(parts)
		if len(b) > room {
			return
		}
		found[string(b)] = len(parts)
		var extend func(part []byte)
		extend = func(part []byte) {
			if len(b)+1+len(part) > room {
				return
			}
			parts = append(parts, part)
			add()
			parts = parts[:len(parts)-1]
			for _, x := range of {
				extend(append(bytes.Clone(part), x))
			}
		}
		extend(nil)
	}
	add()
	return found
}

func TestSplitTellsWhatIsAJoin(t *testing.T) {
	const room = 5
	edges := []byte{0, 1, 2, 3, 4, 0x80, 0xff}
	known := joins(room, edges)
	seen := 0
	var check func(b []byte)
	check = func(b []byte) {
		n, is := known[string(b)]
		if is {
			seen++
		}
		for most := -1; most <= room; most++ {
			parts, e := Split(b, most)
			if is && n <= most {
				if e != api.OK || len(parts) != n || !bytes.Equal(written(parts), b) {
					t.Errorf("Split of % x, %d: %q, %d", b, most, parts, e)
				}
			} else if e != api.ErrForm || len(parts) != 0 {
				t.Errorf("Split of % x, %d: %q, %d, but it is no such Join", b, most, parts, e)
			}
		}
		if len(b) == room {
			return
		}
		for _, x := range edges {
			check(append(bytes.Clone(b), x))
		}
	}
	check(nil)
	if seen < 100 || seen != len(known) {
		t.Errorf("%d of %d Joins were met", seen, len(known))
	}
}

func TestSplitMakesNewMemory(t *testing.T) {
	want := [][]byte{[]byte("one"), nil, []byte("two"), {}, []byte("x")}
	room := append(written(want), "and a good deal of room"...)
	was := bytes.Clone(room)
	given := room[:len(written(want))]
	first, _ := Split(given, 5)
	second, _ := Split(given, 5)
	if !same(first, want) || !same(second, want) {
		t.Fatalf("Split: %q, %q", first, second)
	}
	for i := range first {
		spoilRoom(first[i])
		for k := i + 1; k < len(first); k++ {
			if !bytes.Equal(first[k], want[k]) {
				t.Errorf("parts %d and %d share memory: %q", i, k, first[k])
			}
		}
	}
	if !bytes.Equal(room, was) {
		t.Errorf("what was handed in was changed, or is shared: %q", room)
	}
	first = first[:cap(first)]
	clear(first)
	spoilRoom(room)
	if !same(second, want) {
		t.Errorf("an answer is shared: %q", second)
	}
}

// A part that is appended to must not run into the next one.
func TestSplitPartsMayGrow(t *testing.T) {
	parts, _ := Split([]byte("\x03\x02ab\x00\x02cd"), 3)
	if len(parts) != 3 {
		t.Fatalf("%d parts", len(parts))
	}
	for i := range parts {
		_ = append(parts[i], "zzzzzzzz"...)
	}
	if !same(parts, [][]byte{[]byte("ab"), nil, []byte("cd")}) {
		t.Errorf("a part grew into another one: %q", parts)
	}
}

func TestSplitRefusesWithoutChanging(t *testing.T) {
	room := []byte("\x03\x02ab\x00\x01crest")
	was := bytes.Clone(room)
	for range 2 {
		mustRefuse(t, "more than may be", room[:7], 2)
		mustRefuse(t, "one more behind", room[:8], 3)
		mustRefuse(t, "cut off", room[:6], 3)
		mustSplit(t, "behind refused ones", room[:7], 3, [][]byte{[]byte("ab"), nil, []byte("c")})
	}
	if !bytes.Equal(room, was) {
		t.Errorf("what was handed in was changed: %q", room)
	}
}
