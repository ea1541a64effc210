package inst

import (
	"bytes"
	"encoding/binary"
	"math"
	"testing"

	"chrysalis/api"
	"chrysalis/num"
)

// count: how many instructions there are, by api's list.
const count = 42

// beyond: a number without any of its lowest bits, whatever the width of an int is.
const beyond = math.MaxInt/2 + 1

// in: an instruction by its three numbers.
func in(op, a, b int) api.Instr { return api.Instr{Op: op, A: a, B: b} }

// having: how many numbers an instruction has, by its place in api's list; -1 of none.
func having(op int) int {
	some := map[int]int{0: 1, 1: 1, 3: 1, 4: 1, 23: 1, 24: 1, 25: 1, 27: 1, 28: 1, 29: 2, 30: 2}
	if op < 0 || op >= count {
		return -1
	}
	return some[op]
}

// ops: those that there are, those beside them, those that are one of them in their lowest bits alone, and those far off.
func ops() []int {
	out := []int{math.MinInt, math.MinInt + 3, math.MinInt32, -256, -253, 127, 128, 131, 255, 256, 259, 285, 512, 1 << 16, 1<<16 + 3, math.MaxInt32, beyond + 3, math.MaxInt}
	for op := -3; op < count+3; op++ {
		out = append(out, op)
	}
	return out
}

// edges: both sides of each bound that an A or a B has, and those far off.
func edges() []int {
	return []int{math.MinInt, math.MinInt32, -257, -256, -255, -128, -2, -1, 0, 1, 2, 63, 64, 126, 127, 128, 129, 200, 254, 255, 256, 257, 300, 511, 512, 1 << 16, math.MaxInt32, beyond, beyond + 1, math.MaxInt - 1, math.MaxInt}
}

// each: all of ops with all of edges, twice.
func each(do func(i api.Instr)) {
	for _, op := range ops() {
		for _, a := range edges() {
			for _, b := range edges() {
				do(in(op, a, b))
			}
		}
	}
}

// written: a Put, written once more by the library's own numbers.
func written(i api.Instr) []byte {
	in255 := func(n int) bool { return n >= 0 && n <= 255 }
	switch having(i.Op) {
	case 0:
		if i.A == 0 && i.B == 0 {
			return []byte{byte(i.Op)}
		}
	case 1:
		if in255(i.A) && i.B == 0 {
			return binary.AppendUvarint([]byte{byte(i.Op)}, uint64(i.A))
		}
	case 2:
		if in255(i.A) && in255(i.B) {
			return binary.AppendUvarint(binary.AppendUvarint([]byte{byte(i.Op)}, uint64(i.A)), uint64(i.B))
		}
	}
	return nil
}

func TestArgsOfThoseWithNumbers(t *testing.T) {
	for _, op := range []int{api.OpField, api.OpPut} {
		if got := Args(op); got != 2 {
			t.Errorf("Args(%d): %d", op, got)
		}
	}
	for _, op := range []int{api.OpInt, api.OpText, api.OpGet, api.OpSet, api.OpJump, api.OpZero, api.OpCall, api.OpHost, api.OpNew} {
		if got := Args(op); got != 1 {
			t.Errorf("Args(%d): %d", op, got)
		}
	}
}

func TestArgsOfThoseWithout(t *testing.T) {
	for _, op := range []int{
		api.OpNull, api.OpPop, api.OpDup, api.OpSwap, api.OpAdd, api.OpSub, api.OpMul, api.OpDiv, api.OpRem, api.OpAnd, api.OpOr, api.OpXor, api.OpShl, api.OpShr,
		api.OpAdd32, api.OpMul32, api.OpEq, api.OpLt, api.OpTwist, api.OpRet, api.OpInts, api.OpLoad, api.OpStore, api.OpLen, api.OpBytes, api.OpLoadB, api.OpStoreB, api.OpLenB,
		api.OpIsNull, api.OpSame, api.OpClose,
	} {
		if got := Args(op); got != 0 {
			t.Errorf("Args(%d): %d", op, got)
		}
	}
}

func TestArgsOfNone(t *testing.T) {
	for _, op := range []int{-1, -2, -3, -256, math.MinInt32, math.MinInt, api.Ops, api.Ops + 1, 127, 128, 255, 256, 256 + api.OpField, beyond + api.OpGet, math.MaxInt32, math.MaxInt} {
		if got := Args(op); got != -1 {
			t.Errorf("Args(%d): %d", op, got)
		}
	}
}

func TestArgsOfAll(t *testing.T) {
	if api.Ops != count {
		t.Fatalf("%d instructions: the tests' own list has %d", api.Ops, count)
	}
	for op := -1000; op < 70000; op++ {
		if got := Args(op); got != having(op) {
			t.Errorf("Args(%d): %d, not %d", op, got, having(op))
		}
	}
	for _, op := range ops() {
		if got := Args(op); got != having(op) {
			t.Errorf("Args(%d): %d, not %d", op, got, having(op))
		}
	}
}

func TestPutOfAFew(t *testing.T) {
	for _, c := range []struct {
		i    api.Instr
		want []byte
	}{
		{in(api.OpGet, 3, 0), []byte{3, 3}}, // the chapter's example
		{in(api.OpInt, 0, 0), []byte{0, 0}}, {in(api.OpInt, 1, 0), []byte{0, 1}},
		{in(api.OpGet, 127, 0), []byte{3, 0x7f}}, {in(api.OpGet, 128, 0), []byte{3, 0x80, 1}}, {in(api.OpGet, 200, 0), []byte{3, 0xc8, 1}}, {in(api.OpGet, 255, 0), []byte{3, 0xff, 1}},
		{in(api.OpAdd, 0, 0), []byte{8}}, {in(api.OpRet, 0, 0), []byte{26}}, {in(api.OpClose, 0, 0), []byte{41}},
		{in(api.OpField, 1, 2), []byte{29, 1, 2}}, {in(api.OpPut, 2, 1), []byte{30, 2, 1}}, {in(api.OpField, 0, 0), []byte{29, 0, 0}},
		{in(api.OpPut, 255, 0), []byte{30, 0xff, 1, 0}}, {in(api.OpPut, 0, 255), []byte{30, 0, 0xff, 1}}, {in(api.OpField, 128, 255), []byte{29, 0x80, 1, 0xff, 1}}, {in(api.OpField, 127, 128), []byte{29, 0x7f, 0x80, 1}},
	} {
		if got := Put(c.i); !bytes.Equal(got, c.want) {
			t.Errorf("Put(%v): % x", c.i, got)
		}
	}
}

func TestPutOfNoGoodOne(t *testing.T) {
	for _, i := range []api.Instr{
		// there is no such one
		in(-1, 0, 0), in(api.Ops, 0, 0), in(api.Ops, 1, 1), in(255, 0, 0), in(256, 0, 0), in(256+api.OpAdd, 0, 0), in(beyond+api.OpGet, 3, 0), in(math.MaxInt, 0, 0), in(math.MinInt, 0, 0), in(math.MinInt+api.OpGet, 3, 0),
		// a number that it has is not from 0 to 255
		in(api.OpGet, -1, 0), in(api.OpGet, 256, 0), in(api.OpGet, math.MinInt, 0), in(api.OpGet, math.MaxInt, 0), in(api.OpGet, beyond, 0),
		in(api.OpField, -1, 0), in(api.OpField, 256, 0), in(api.OpField, 0, -1), in(api.OpField, 0, 256), in(api.OpPut, 3, math.MinInt), in(api.OpPut, math.MaxInt, 3), in(api.OpPut, 256, -1), in(api.OpPut, -1, 256),
		// one that it has not is not 0
		in(api.OpAdd, 1, 0), in(api.OpAdd, 0, 1), in(api.OpAdd, -1, 0), in(api.OpAdd, 0, -1), in(api.OpAdd, 255, 255), in(api.OpClose, 256, 0), in(api.OpClose, 0, math.MinInt),
		in(api.OpGet, 0, 1), in(api.OpGet, 3, -1), in(api.OpGet, 3, 255), in(api.OpGet, 3, 256), in(api.OpInt, 0, math.MaxInt),
	} {
		if got := Put(i); len(got) != 0 {
			t.Errorf("Put(%v): % x", i, got)
		}
	}
}

func TestPutOfAllEdges(t *testing.T) {
	each(func(i api.Instr) {
		if got := Put(i); !bytes.Equal(got, written(i)) {
			t.Errorf("Put(%v): % x, not % x", i, got, written(i))
		}
	})
}

func TestPutAnswersNewMemory(t *testing.T) {
	for op := range count {
		for _, a := range []int{0, 3, 255} {
			i := in(op, a*min(having(op), 1), a*(having(op)/2))
			x, y := Put(i), Put(i)
			x = x[:cap(x)]
			for k := range x {
				x[k] ^= 0xff
			}
			if !bytes.Equal(y, written(i)) || !bytes.Equal(Put(i), written(i)) {
				t.Fatalf("Put(%v) shares its bytes", i)
			}
		}
	}
}

// goesRound: that Get takes what Put wrote of a good i, and nothing of what stands behind it.
func goesRound(t *testing.T, i api.Instr) {
	t.Helper()
	for _, tail := range [][]byte{nil, {0}, {1}, {0xff, 0x55}} {
		r := num.NewReader(append(Put(i), tail...))
		if got, ok := Get(r); !ok || got != i {
			t.Fatalf("Get(Put(%v)): %v, %v", i, got, ok)
		}
		if r.Bad() || !bytes.Equal(r.Take(r.Left()), tail) {
			t.Fatalf("Get(Put(%v)) takes what stands behind it, or leaves some", i)
		}
	}
}

func TestGetOfWhatPutWrote(t *testing.T) {
	for op := range count {
		switch having(op) {
		case 0:
			goesRound(t, in(op, 0, 0))
		case 1:
			for a := range 256 {
				goesRound(t, in(op, a, 0))
			}
		case 2:
			for a := range 256 {
				for b := range 256 {
					goesRound(t, in(op, a, b))
				}
			}
		}
	}
}

func TestGetOneBehindTheOther(t *testing.T) {
	var list []api.Instr
	for op := range count {
		list = append(list, in(op, 255*min(having(op), 1), 128*(having(op)/2)), in(op, 0, 0))
	}
	var b []byte
	for _, i := range list {
		b = append(b, Put(i)...)
	}
	r := num.NewReader(b)
	for k, i := range list {
		if got, ok := Get(r); !ok || got != i {
			t.Errorf("instruction %d: %v, %v", k, got, ok)
		}
	}
	if r.Bad() || r.Left() != 0 {
		t.Error("not all of it was taken, or too much")
	}
	if got, ok := Get(r); ok || got != (api.Instr{}) {
		t.Errorf("an instruction behind the last one: %v, %v", got, ok)
	}
}

// refused: that Get makes nothing of b.
func refused(t *testing.T, b ...byte) {
	t.Helper()
	if got, ok := Get(num.NewReader(b)); ok || got != (api.Instr{}) {
		t.Errorf("Get(% x): %v, %v", b, got, ok)
	}
}

func TestGetOfAReaderThatIsBad(t *testing.T) {
	if got, ok := Get(nil); ok || got != (api.Instr{}) {
		t.Errorf("of nil: %v, %v", got, ok)
	}
	if got, ok := Get(new(num.Reader)); ok || got != (api.Instr{}) {
		t.Errorf("of none that was made: %v, %v", got, ok)
	}
	for op := range count {
		r := num.NewReader([]byte{byte(op), 0, 0})
		r.Take(4)
		if got, ok := Get(r); ok || got != (api.Instr{}) || !r.Bad() {
			t.Errorf("of one that is bad: %v, %v", got, ok)
		}
	}
}

func TestGetOfNoBytes(t *testing.T) {
	refused(t)
	if got, ok := Get(num.NewReader([]byte{})); ok || got != (api.Instr{}) {
		t.Errorf("%v, %v", got, ok)
	}
}

func TestGetOfBytesThatAreCutOff(t *testing.T) {
	each(func(i api.Instr) {
		b := Put(i)
		for n := range len(b) {
			refused(t, b[:n]...)
		}
	})
}

func TestGetOfAnOpThatThereIsNot(t *testing.T) {
	for op := count; op < 256; op++ {
		refused(t, byte(op))
		refused(t, byte(op), 0)
		refused(t, byte(op), 0, 0)
		refused(t, byte(op), 1, 1, 1)
	}
}

func TestGetOfNumbersInAnotherForm(t *testing.T) {
	long := []byte{0x80, 0x80, 0x80, 0x80, 0x80, 0x80, 0x80, 0x80, 0x80}
	for _, form := range [][]byte{
		{0x80, 0}, {0x83, 0}, {0xff, 0}, {0xff, 0x81, 0}, {0x80, 0x80, 0}, {0x81, 0x80, 0x80, 0}, // longer than it has to be
		append(bytes.Clone(long), 0), append(bytes.Clone(long), 2), // and above 2^64 - 1
		append(bytes.Clone(long), 0x80, 0), append(bytes.Clone(long), 0x81, 0), // eleven bytes
		{0x80}, {0xff}, {0xff, 0x80}, // more is told than there is
		bytes.Repeat([]byte{0xff}, 40), bytes.Repeat([]byte{0x80}, 40),
	} {
		for op := range count {
			switch having(op) {
			case 1:
				refused(t, append([]byte{byte(op)}, form...)...)
			case 2:
				refused(t, append([]byte{byte(op)}, append(bytes.Clone(form), 1)...)...)
				refused(t, append([]byte{byte(op), 1}, form...)...)
			}
		}
	}
}

// far: numbers above 255, those that are small in their lowest bits alone among them.
func far() []uint64 {
	out := []uint64{256, 257, 300, 511, 1 << 14, math.MaxUint64, math.MaxInt64, math.MaxUint32}
	for _, high := range []uint64{1 << 8, 1 << 16, 1 << 31, 1 << 32, 1 << 33, 1 << 62, 1 << 63, math.MaxUint64 &^ 0xff, math.MaxUint64 &^ math.MaxUint32} {
		out = append(out, high, high|1, high|3)
	}
	return out
}

func TestGetOfNumbersAbove255(t *testing.T) {
	for _, n := range far() {
		for op := range count {
			one := append([]byte{byte(op)}, num.Var(n)...)
			switch having(op) {
			case 1:
				refused(t, one...)
				refused(t, append(one, 0)...)
			case 2:
				refused(t, append(one, 0)...)
				refused(t, append([]byte{byte(op), 0}, num.Var(n)...)...)
				refused(t, append(one, num.Var(n)...)...)
			}
		}
	}
}

func TestGetOfAllShortBytes(t *testing.T) {
	want := map[string]api.Instr{}
	for op := range count {
		for a := range 256 {
			for b := range 256 {
				if text := written(in(op, a, b)); text != nil {
					want[string(text)] = in(op, a, b)
				}
			}
		}
	}
	for a := range 256 {
		for b := range 256 {
			for _, tail := range [][]byte{nil, {0}, {1}, {2}, {0x7f}, {0x80}, {0xff}, {1, 0}, {1, 0x80}, {0x80, 0}, {0x80, 1}, {0xff, 1}, {0x80, 2}, {1, 0xff, 1}, {1, 0x80, 0}, {1, 0x80, 2}} {
				text := append([]byte{byte(a), byte(b)}, tail...)
				r := num.NewReader(text)
				got, ok := Get(r)
				n := front(want, text)
				if ok != (n > 0) || got != want[string(text[:n])] || ok && r.Left() != len(text)-n {
					t.Fatalf("Get(% x): %v, %v", text, got, ok)
				}
			}
		}
	}
}

// front: how many bytes the instruction of want has that text begins with; 0, if it begins with none.
func front(want map[string]api.Instr, text []byte) int {
	for n := range len(text) + 1 {
		if _, there := want[string(text[:n])]; there {
			return n
		}
	}
	return 0
}

func TestAgainTheSame(t *testing.T) {
	each(func(i api.Instr) {
		args, put := Args(i.Op), Put(i)
		got, ok := Get(num.NewReader(put))
		if args != Args(i.Op) || !bytes.Equal(put, Put(i)) {
			t.Fatalf("%v: another answer", i)
		}
		if again, there := Get(num.NewReader(put)); again != got || there != ok {
			t.Fatalf("%v: Get has another answer", i)
		}
	})
}
