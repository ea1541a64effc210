package num

import (
	"bytes"
	"encoding/binary"
	"math"
	"testing"
)

const greatest = math.MaxUint64

// numbers: both sides of each power of two, so of each change of a Var's length and of a Fixed's width.
func numbers() []uint64 {
	list := []uint64{0, 300, 0x123456, 0x0123456789abcdef, 0xfedcba9876543210, greatest}
	for i := range 64 {
		p := uint64(1) << i
		list = append(list, p-1, p, p+1)
	}
	return list
}

// mustBeBad: every call of a bad Reader answers 0 or nothing, however often.
func mustBeBad(t *testing.T, what string, r *Reader) {
	t.Helper()
	for range 2 {
		if !r.Bad() || r.Left() != 0 || r.Var() != 0 || len(r.Take(0)) != 0 || len(r.Take(1)) != 0 || len(r.Take(-1)) != 0 {
			t.Errorf("%s: a bad Reader answered something", what)
		}
		for n := -1; n <= 9; n++ {
			if r.Fixed(n) != 0 {
				t.Errorf("%s: a bad Reader answered Fixed(%d)", what, n)
			}
		}
	}
}

// P1.1

func TestFixedWritesTheLowestFirst(t *testing.T) {
	const v = 0x0807060504030201
	whole := []byte{1, 2, 3, 4, 5, 6, 7, 8}
	for n := range 9 {
		if got := Fixed(v, n); !bytes.Equal(got, whole[:n]) {
			t.Errorf("Fixed(%x, %d): % x", uint64(v), n, got)
		}
	}
	if got := Fixed(0x123456, 2); !bytes.Equal(got, []byte{0x56, 0x34}) {
		t.Errorf("Fixed drops what is above: % x", got)
	}
	if got := Fixed(1, 4); !bytes.Equal(got, []byte{1, 0, 0, 0}) {
		t.Errorf("Fixed fills up with 0: % x", got)
	}
	for _, v := range numbers() {
		if got := Fixed(v, 8); !bytes.Equal(got, binary.LittleEndian.AppendUint64(nil, v)) {
			t.Errorf("Fixed(%x, 8): % x", v, got)
		}
	}
}

func TestFixedTakesTheEndsBeyond(t *testing.T) {
	for _, n := range []int{-1, -8, -255, math.MinInt} {
		if got := Fixed(greatest, n); len(got) != 0 {
			t.Errorf("Fixed with n %d: % x", n, got)
		}
	}
	whole := []byte{1, 2, 3, 4, 5, 6, 7, 8}
	for _, n := range []int{9, 10, 16, 264, math.MaxInt} {
		if got := Fixed(0x0807060504030201, n); !bytes.Equal(got, whole) {
			t.Errorf("Fixed with n %d: % x", n, got)
		}
	}
}

func TestVarWritesSevenBitsAByte(t *testing.T) {
	for _, c := range []struct {
		v    uint64
		want []byte
	}{
		{0, []byte{0}},
		{1, []byte{1}},
		{127, []byte{0x7f}},
		{128, []byte{0x80, 1}},
		{300, []byte{0xac, 2}},
		{16383, []byte{0xff, 0x7f}},
		{16384, []byte{0x80, 0x80, 1}},
		{1 << 62, []byte{0x80, 0x80, 0x80, 0x80, 0x80, 0x80, 0x80, 0x80, 0x40}},
		{1<<63 - 1, []byte{0xff, 0xff, 0xff, 0xff, 0xff, 0xff, 0xff, 0xff, 0x7f}},
		{1 << 63, []byte{0x80, 0x80, 0x80, 0x80, 0x80, 0x80, 0x80, 0x80, 0x80, 1}},
		{greatest, []byte{0xff, 0xff, 0xff, 0xff, 0xff, 0xff, 0xff, 0xff, 0xff, 1}},
	} {
		if got := Var(c.v); !bytes.Equal(got, c.want) {
			t.Errorf("Var(%d): % x, not % x", c.v, got, c.want)
		}
	}
	for _, v := range numbers() {
		if got := Var(v); !bytes.Equal(got, binary.AppendUvarint(nil, v)) {
			t.Errorf("Var(%d): % x", v, got)
		}
	}
}

func TestWrittenBytesAreNewMemory(t *testing.T) {
	for _, write := range []func() []byte{
		func() []byte { return Fixed(0x1234, 2) },
		func() []byte { return Var(300) },
	} {
		first, second := write(), write()
		was := bytes.Clone(second)
		for i := range cap(first) {
			first[:cap(first)][i] = 0xee
		}
		if !bytes.Equal(second, was) || !bytes.Equal(write(), was) {
			t.Error("two answers share memory")
		}
	}
}

// P1.2

func TestReaderTakesFromTheFront(t *testing.T) {
	r := NewReader([]byte{0xac, 2, 0x34, 0x12, 9, 8, 7})
	if v := r.Var(); v != 300 || r.Left() != 5 {
		t.Errorf("Var: %d, %d left", v, r.Left())
	}
	if v := r.Fixed(2); v != 0x1234 || r.Left() != 3 {
		t.Errorf("Fixed: %x, %d left", v, r.Left())
	}
	if b := r.Take(2); !bytes.Equal(b, []byte{9, 8}) || r.Left() != 1 {
		t.Errorf("Take: % x, %d left", b, r.Left())
	}
	if b := r.Take(0); len(b) != 0 || r.Left() != 1 || r.Bad() {
		t.Errorf("Take of none: % x, %d left", b, r.Left())
	}
	if v := r.Fixed(1); v != 7 || r.Left() != 0 || r.Bad() {
		t.Errorf("the last byte: %d, %d left, bad %v", v, r.Left(), r.Bad())
	}
}

func TestReaderAtItsEndIsNotBad(t *testing.T) {
	for _, b := range [][]byte{nil, {}} {
		r := NewReader(b)
		if r.Bad() || r.Left() != 0 || r.Fixed(0) != 0 || r.Fixed(-1) != 0 || len(r.Take(0)) != 0 || r.Bad() {
			t.Error("nothing was asked of a Reader of nothing, and it is bad")
		}
		if r.Var() != 0 {
			t.Error("Var of nothing")
		}
		mustBeBad(t, "Var of nothing", r)
	}
}

func TestReaderFixedReadsWhatFixedWrites(t *testing.T) {
	for _, v := range numbers() {
		for n := -1; n <= 9; n++ {
			b := Fixed(v, n)
			want := v
			if n < 8 {
				want = v & (1<<(8*max(n, 0)) - 1)
			}
			r := NewReader(append(bytes.Clone(b), 0xff))
			if got := r.Fixed(n); got != want || r.Left() != 1 || r.Bad() {
				t.Errorf("Fixed(%d) of % x: %x, %d left", n, b, got, r.Left())
			}
		}
	}
}

func TestReaderFixedTakesTheEndsBeyond(t *testing.T) {
	nine := []byte{1, 2, 3, 4, 5, 6, 7, 8, 9}
	for _, n := range []int{0, -1, -8, math.MinInt} {
		if r := NewReader(nine); r.Fixed(n) != 0 || r.Left() != 9 || r.Bad() {
			t.Errorf("Fixed(%d) took something", n)
		}
	}
	for _, n := range []int{8, 9, 100, math.MaxInt} {
		if r := NewReader(nine); r.Fixed(n) != 0x0807060504030201 || r.Left() != 1 || r.Bad() {
			t.Errorf("Fixed(%d) did not take eight", n)
		}
	}
}

func TestReaderFixedOfTooFew(t *testing.T) {
	for have := range 8 {
		for _, n := range []int{have + 1, 8, 9, math.MaxInt} {
			r := NewReader(bytes.Repeat([]byte{0xff}, have))
			if v := r.Fixed(n); v != 0 {
				t.Errorf("Fixed(%d) of %d bytes: %x", n, have, v)
			}
			mustBeBad(t, "Fixed of too few", r)
		}
	}
}

func TestReaderVarReadsWhatVarWrites(t *testing.T) {
	for _, v := range numbers() {
		b := Var(v)
		r := NewReader(append(bytes.Clone(b), 0xff))
		if got := r.Var(); got != v || r.Left() != 1 || r.Bad() {
			t.Errorf("Var of % x: %d, %d left", b, got, r.Left())
		}
		for cut := range len(b) {
			r := NewReader(b[:cut])
			if got := r.Var(); got != 0 {
				t.Errorf("Var of % x: %d", b[:cut], got)
			}
			mustBeBad(t, "Var of too few", r)
		}
	}
}

func TestReaderVarRefusesOtherForms(t *testing.T) {
	nines := bytes.Repeat([]byte{0xff}, 9)
	noughts := bytes.Repeat([]byte{0x80}, 9)
	for _, b := range [][]byte{
		{0x80, 0},
		{0xff, 0},
		{0x80, 0x80, 0},
		{0xac, 0x82, 0},
		append(bytes.Clone(noughts), 0),
		append(bytes.Clone(nines), 0),
		append(bytes.Clone(noughts), 2),
		append(bytes.Clone(nines), 2),
		append(bytes.Clone(nines), 3),
		append(bytes.Clone(nines), 0x40),
		append(bytes.Clone(nines), 0x7f),
		append(bytes.Clone(nines), 0x80),
		append(bytes.Clone(nines), 0x81, 0),
		append(bytes.Clone(nines), 0x80, 1),
		append(bytes.Clone(nines), 0xff, 1),
		append(bytes.Clone(noughts), 0x80, 0x80, 0x80, 1),
		bytes.Repeat([]byte{0xff}, 100),
		bytes.Repeat([]byte{0x80}, 100),
	} {
		r := NewReader(append(bytes.Clone(b), 1, 2, 3))
		if v := r.Var(); v != 0 {
			t.Errorf("Var of % x: %d", b, v)
		}
		mustBeBad(t, "Var in another form", r)
	}
}

// The bytes at which a Var changes its meaning, in all orders, up to four of them, alone and behind a long beginning.
func TestReaderVarHasOneForm(t *testing.T) {
	edges := []byte{0, 1, 2, 0x7f, 0x80, 0x81, 0xff}
	var check func(b []byte, more int)
	check = func(b []byte, more int) {
		r := NewReader(b)
		v := r.Var()
		if r.Bad() {
			if u, n := binary.Uvarint(b); v != 0 || n > 0 && len(Var(u)) == n {
				t.Errorf("Var of % x was refused with %d", b, v)
			}
		} else if taken := len(b) - r.Left(); !bytes.Equal(Var(v), b[:taken]) {
			t.Errorf("Var of % x: %d, but it is written % x", b, v, Var(v))
		}
		if more == 0 {
			return
		}
		for _, x := range edges {
			check(append(bytes.Clone(b), x), more-1)
		}
	}
	check(nil, 4)
	check(bytes.Repeat([]byte{0x80}, 7), 4)
	check(bytes.Repeat([]byte{0xff}, 8), 4)
}

func TestReaderTakeOfWhatIsNot(t *testing.T) {
	for _, n := range []int{-1, -2, math.MinInt, 4, 5, math.MaxInt} {
		r := NewReader([]byte{1, 2, 3})
		if b := r.Take(n); len(b) != 0 {
			t.Errorf("Take(%d): % x", n, b)
		}
		mustBeBad(t, "Take of what is not", r)
	}
	r := NewReader([]byte{1, 2, 3})
	if b := r.Take(3); !bytes.Equal(b, []byte{1, 2, 3}) || r.Bad() || r.Left() != 0 {
		t.Errorf("Take of all: % x", b)
	}
	if len(r.Take(1)) != 0 {
		t.Error("Take behind the end")
	}
	mustBeBad(t, "Take behind the end", r)
}

func TestNilReaderIsBad(t *testing.T) {
	var r *Reader
	mustBeBad(t, "nil", r)
}

func TestReaderKeepsNothingOfOthers(t *testing.T) {
	room := []byte{1, 2, 3, 4, 0xaa, 0xbb}
	given := room[:4]
	r := NewReader(given)
	given[0] = 9
	first := r.Take(2)
	if !bytes.Equal(first, []byte{1, 2}) {
		t.Errorf("the Reader keeps what was handed in: % x", first)
	}
	for i := range cap(first) {
		first[:cap(first)][i] = 0xee
	}
	if v := r.Fixed(2); v != 0x0403 {
		t.Errorf("what was taken shares memory with what is left: %x", v)
	}
	if !bytes.Equal(room, []byte{9, 2, 3, 4, 0xaa, 0xbb}) {
		t.Errorf("what was handed in was changed: % x", room)
	}
}

func TestReadersDoNotMeet(t *testing.T) {
	b := []byte{5, 6}
	one, two := NewReader(b), NewReader(b)
	one.Take(3)
	if two.Bad() || two.Left() != 2 || two.Fixed(2) != 0x0605 {
		t.Error("a bad Reader spoilt another one")
	}
}
