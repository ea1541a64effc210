package sum

import (
	"bytes"
	"compress/gzip"
	"encoding/binary"
	"hash/crc32"
	"testing"

	"chrysalis/api"
)

const digits = "123456789"

// pattern: n bytes of all kinds, the same ones each time.
func pattern(n int) []byte {
	out := make([]byte, n)
	x := uint32(12345)
	for i := range out {
		x = x*1664525 + 1013904223
		out[i] = byte(x >> 24)
	}
	return out
}

// samples: what is sealed and opened in the tests below.
func samples() [][]byte {
	list := [][]byte{
		nil,
		{},
		{0},
		{0xff},
		{0, 0, 0, 0},
		{0xff, 0xff, 0xff, 0xff},
		{0, 0, 0, 0, 0},
		[]byte(digits),
		bytes.Repeat([]byte{0}, 40),
		bytes.Repeat([]byte{0xff}, 40),
	}
	for n := range 40 {
		list = append(list, pattern(n))
	}
	return append(list, pattern(1000), pattern(1<<16+3))
}

// mustRefuse: b is not sealed, and nothing stands beside the error.
func mustRefuse(t *testing.T, what string, b []byte) {
	t.Helper()
	if x, e := Open(b); e != api.ErrSum || len(x) != 0 {
		t.Errorf("%s: Open of % x: % x, %d", what, b, x, e)
	}
}

// mustOpen: b is sealed, and want is in it.
func mustOpen(t *testing.T, what string, b, want []byte) {
	t.Helper()
	if x, e := Open(b); e != api.OK || !bytes.Equal(x, want) {
		t.Errorf("%s: Open of % x: % x, %d", what, b, x, e)
	}
}

// spoilRoom writes over all of b, spare room included.
func spoilRoom(b []byte) {
	b = b[:cap(b)]
	for i := range b {
		b[i] ^= 0xff
	}
}

// P2.1, Of

func TestOfKnownSums(t *testing.T) {
	for _, c := range []struct {
		text string
		want uint32
	}{
		{digits, 0xcbf43926},
		{"", 0},
		{"a", 0xe8b7be43},
		{"abc", 0x352441c2},
		{"The quick brown fox jumps over the lazy dog", 0x414fa339},
		{"\x00", 0xd202ef8d},
		{"\xff", 0xff000000},
		{"\x00\x00\x00\x00", 0x2144df1c},
		{"\xff\xff\xff\xff", 0xffffffff},
	} {
		if got := Of([]byte(c.text)); got != c.want {
			t.Errorf("Of(%q): %08x, not %08x", c.text, got, c.want)
		}
	}
	if Of(nil) != 0 || Of([]byte{}) != 0 {
		t.Error("the sum of nothing")
	}
}

func TestOfEachByteAndEachTwo(t *testing.T) {
	for x := range 256 {
		if b := []byte{byte(x)}; Of(b) != crc32.ChecksumIEEE(b) {
			t.Errorf("Of(% x): %08x", b, Of(b))
		}
		for y := range 256 {
			if b := []byte{byte(x), byte(y)}; Of(b) != crc32.ChecksumIEEE(b) {
				t.Errorf("Of(% x): %08x", b, Of(b))
			}
		}
	}
}

func TestOfEachLength(t *testing.T) {
	whole := pattern(1<<16 + 3)
	for n := range 300 {
		if Of(whole[:n]) != crc32.ChecksumIEEE(whole[:n]) {
			t.Errorf("Of %d bytes: %08x", n, Of(whole[:n]))
		}
	}
	if Of(whole) != crc32.ChecksumIEEE(whole) {
		t.Errorf("Of %d bytes: %08x", len(whole), Of(whole))
	}
}

func TestOfIsWhatGzipWrites(t *testing.T) {
	for _, b := range samples() {
		var file bytes.Buffer
		w := gzip.NewWriter(&file)
		if _, err := w.Write(b); err != nil {
			t.Fatal(err)
		}
		if err := w.Close(); err != nil {
			t.Fatal(err)
		}
		end := file.Bytes()[file.Len()-8:]
		if want := binary.LittleEndian.Uint32(end); Of(b) != want {
			t.Errorf("Of %d bytes: %08x, but gzip writes %08x", len(b), Of(b), want)
		}
	}
}

func TestOfReadsAlone(t *testing.T) {
	room := []byte("123456789rest")
	given := room[:9]
	for range 2 {
		if Of(given) != 0xcbf43926 {
			t.Errorf("Of: %08x", Of(given))
		}
	}
	if string(room) != "123456789rest" {
		t.Errorf("what was handed in was changed: %q", room)
	}
}

// P2.1, Seal

func TestSealPutsTheLowestFirst(t *testing.T) {
	if got := Seal([]byte(digits)); string(got) != digits+"\x26\x39\xf4\xcb" {
		t.Errorf("Seal(%q): % x", digits, got)
	}
	for _, b := range [][]byte{nil, {}} {
		if got := Seal(b); !bytes.Equal(got, []byte{0, 0, 0, 0}) {
			t.Errorf("Seal of nothing: % x", got)
		}
	}
	for _, b := range samples() {
		want := binary.LittleEndian.AppendUint32(bytes.Clone(b), crc32.ChecksumIEEE(b))
		if got := Seal(b); !bytes.Equal(got, want) {
			t.Errorf("Seal of %d bytes ends on % x, not % x", len(b), got[len(got)-4:], want[len(b):])
		}
	}
}

func TestSealTwice(t *testing.T) {
	const residue = "\x1c\xdf\x44\x21" // what comes of whatever has its own sum behind it
	for _, b := range samples() {
		once := Seal(b)
		twice := Seal(once)
		if !bytes.Equal(twice, append(bytes.Clone(once), residue...)) {
			t.Errorf("%d bytes, sealed twice, end on % x", len(b), twice[len(once):])
		}
		mustOpen(t, "sealed twice", twice, once)
	}
}

func TestSealMakesNewMemory(t *testing.T) {
	for _, n := range []int{0, 4, 9} {
		room := []byte("123456789and a good deal of room")
		was := bytes.Clone(room)
		first, second := Seal(room[:n]), Seal(room[:n])
		want := bytes.Clone(second)
		spoilRoom(first)
		if !bytes.Equal(room, was) {
			t.Errorf("what was handed in was changed, or is shared: %q", room)
		}
		if !bytes.Equal(second, want) {
			t.Errorf("two answers share memory: % x", second)
		}
		spoilRoom(room)
		if !bytes.Equal(second, want) {
			t.Errorf("what was handed in is shared: % x", second)
		}
	}
}

// P2.1, Open

func TestOpenAnswersWhatWasSealed(t *testing.T) {
	mustOpen(t, "the example", []byte(digits+"\x26\x39\xf4\xcb"), []byte(digits))
	mustOpen(t, "bytes that are their own sum", bytes.Repeat([]byte{0xff}, 8), bytes.Repeat([]byte{0xff}, 4))
	for _, b := range samples() {
		mustOpen(t, "sealed", Seal(b), b)
	}
}

func TestOpenOfTooFew(t *testing.T) {
	mustRefuse(t, "nil", nil)
	mustRefuse(t, "nothing", []byte{})
	for n := 1; n < 4; n++ {
		mustRefuse(t, "noughts", make([]byte, n))
		mustRefuse(t, "ones", bytes.Repeat([]byte{0xff}, n))
		mustRefuse(t, "others", pattern(n))
	}
}

func TestOpenOfJustFour(t *testing.T) {
	mustOpen(t, "nothing, sealed", []byte{0, 0, 0, 0}, nil)
	mustRefuse(t, "ones", []byte{0xff, 0xff, 0xff, 0xff})
	for i := range 32 {
		b := make([]byte, 4)
		b[i/8] ^= 1 << (i % 8)
		mustRefuse(t, "one bit of four bytes", b)
	}
}

func TestOpenTellsWhatIsSealed(t *testing.T) {
	edges := []byte{0, 1, 0x80, 0xff}
	var check func(b []byte, more int)
	check = func(b []byte, more int) {
		body := b[:max(0, len(b)-4)]
		if len(b) >= 4 && binary.LittleEndian.Uint32(b[len(body):]) == crc32.ChecksumIEEE(body) {
			mustOpen(t, "few bytes", b, body)
		} else {
			mustRefuse(t, "few bytes", b)
		}
		if more == 0 {
			return
		}
		for _, x := range edges {
			check(append(bytes.Clone(b), x), more-1)
		}
	}
	check(nil, 6)
}

func TestOpenOfOneBitTurned(t *testing.T) {
	for _, b := range samples() {
		if len(b) > 40 {
			continue
		}
		sealed := Seal(b)
		for i := range 8 * len(sealed) {
			sealed[i/8] ^= 1 << (i % 8)
			mustRefuse(t, "one bit turned", sealed)
			sealed[i/8] ^= 1 << (i % 8)
		}
		mustOpen(t, "turned back", sealed, b)
	}
}

// turn turns length bits of b side by side, from bit at on, each byte's lowest first: both ends, and between them those of what.
func turn(b []byte, at, length int, what uint64) {
	what = what&(1<<length-1) | 1 | 1<<(length-1)
	for i := range length {
		b[(at+i)/8] ^= byte(what>>i&1) << ((at + i) % 8)
	}
}

func TestOpenOfBitsSideBySideTurned(t *testing.T) {
	for _, b := range [][]byte{nil, {7}, []byte(digits), pattern(16)} {
		sealed := Seal(b)
		for at := range 8 * len(sealed) {
			for length := 1; length <= min(32, 8*len(sealed)-at); length++ {
				// the polynomial itself, both ways about, is what a sum would most easily miss
				for _, what := range []uint64{0, ^uint64(0), 0xedb88320, 0x04c11db7, 0x55555555, 0x3c96a5f1} {
					turn(sealed, at, length, what)
					mustRefuse(t, "bits side by side turned", sealed)
					turn(sealed, at, length, what)
				}
			}
		}
		mustOpen(t, "turned back", sealed, b)
	}
}

func TestOpenOfBytesCutOff(t *testing.T) {
	for _, b := range [][]byte{nil, {7}, []byte(digits), pattern(100), bytes.Repeat([]byte{0xaa}, 40)} {
		sealed := Seal(b)
		for n := range len(sealed) {
			mustRefuse(t, "cut off behind", sealed[:n])
			mustRefuse(t, "cut off ahead", sealed[n+1:])
		}
	}
}

func TestOpenOfOneByteMore(t *testing.T) {
	for _, b := range [][]byte{nil, {0}, {7}, []byte(digits), pattern(100), bytes.Repeat([]byte{0}, 40)} {
		sealed := Seal(b)
		for x := range 256 {
			mustRefuse(t, "one more behind", append(bytes.Clone(sealed), byte(x)))
			mustRefuse(t, "one more ahead", append([]byte{byte(x)}, sealed...))
		}
	}
}

func TestOpenOfOtherSums(t *testing.T) {
	for _, tail := range []string{
		"\xcb\xf4\x39\x26", // the highest first
		"\xd9\xc6\x0b\x34", // not turned at the end
		"\x00\x00\x00\x00",
		"\xff\xff\xff\xff",
		"\xac\xf9\x2d\xfc", // the sum of other bytes
	} {
		mustRefuse(t, "another sum", []byte(digits+tail))
	}
	mustRefuse(t, "the sum ahead", []byte("\x26\x39\xf4\xcb"+digits))
	mustRefuse(t, "no sum", []byte(digits))
}

func TestOpenMakesNewMemory(t *testing.T) {
	room := append(Seal([]byte(digits)), "and a good deal of room"...)
	was := bytes.Clone(room)
	given := room[:13]
	first, _ := Open(given)
	second, _ := Open(given)
	spoilRoom(first)
	if !bytes.Equal(room, was) {
		t.Errorf("what was handed in was changed, or is shared: %q", room)
	}
	spoilRoom(room)
	if string(second) != digits {
		t.Errorf("an answer is shared: %q", second)
	}
}

func TestOpenRefusesWithoutChanging(t *testing.T) {
	room := append(Seal([]byte(digits)), "rest"...)
	room[3] ^= 4
	was := bytes.Clone(room)
	for range 2 {
		mustRefuse(t, "a bit turned", room[:13])
	}
	if !bytes.Equal(room, was) {
		t.Errorf("what was handed in was changed: % x", room)
	}
}
