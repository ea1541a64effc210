package module

import (
	"bytes"
	"encoding/binary"
	"math"
	"math/rand/v2"
	"slices"
	"testing"

	"chrysalis/api"
)

// samples: the modules of whose bytes wrong ones are made.
func samples() []api.Module {
	return []api.Module{tiny(), small(), full(), some(24), some(27), some(33)}
}

func TestDecodeOfNoBytes(t *testing.T) {
	refused(t, nil)
	refused(t, []byte{})
}

func TestDecodeOfBytesThatAreCutOff(t *testing.T) {
	for _, m := range samples() {
		b := written(m)
		for n := range b {
			refused(t, b[:n])
		}
	}
}

func TestDecodeOfBytesWithoutTheirFront(t *testing.T) {
	for _, m := range samples() {
		b := written(m)
		for n := 1; n < len(b); n++ {
			whole(t, b[n:])
		}
		refused(t, b[1:])
	}
}

func TestDecodeOfMoreBehind(t *testing.T) {
	for _, m := range samples() {
		for x := range 256 {
			refused(t, append(written(m), byte(x)))
		}
		refused(t, append(written(m), written(m)...))
	}
}

func TestDecodeOfOtherPartsThanFive(t *testing.T) {
	refused(t, joined())
	refused(t, joined(nil, nil, nil, nil, nil))
	for _, m := range samples() {
		p := parts(m)
		for k := range 6 {
			if k < 5 {
				refused(t, joined(slices.Delete(slices.Clone(p), k, k+1)...)) // one too few
				refused(t, joined(p[:k]...))
				none := slices.Clone(p)
				none[k] = nil
				refused(t, joined(none...))
			}
			for _, more := range [][]byte{nil, {}, {0}, {1}, p[0], p[4]} {
				refused(t, joined(slices.Insert(slices.Clone(p), k, more)...)) // one too many
			}
		}
		refused(t, joined(append(slices.Clone(p), p...)...))
		refused(t, joined(bytes.Join(p, nil)))
	}
}

func TestDecodeOfACountOfPartsThatIsAnother(t *testing.T) {
	for _, m := range samples() {
		rest := written(m)[1:]
		for n := range 256 {
			if n != 5 {
				refused(t, append([]byte{byte(n)}, rest...))
			}
		}
		for _, n := range []uint64{256 + 5, 1<<32 + 5, 1<<63 + 5, math.MaxUint64} {
			refused(t, append(binary.AppendUvarint(nil, n), rest...))
		}
		refused(t, append([]byte{0x85, 0}, rest...))
		refused(t, append([]byte{0x85, 0x80, 0}, rest...))
	}
}

func TestDecodeOfPartsThatChangePlaces(t *testing.T) {
	for _, m := range samples() {
		for i := range 5 {
			for k := range i {
				p := parts(m)
				p[i], p[k] = p[k], p[i]
				whole(t, joined(p...))
			}
		}
	}
	p := parts(small())
	p[0], p[1] = p[1], p[0]
	refused(t, joined(p...))
}

func TestDecodeOfPartsWithMoreBehind(t *testing.T) {
	for _, m := range samples() {
		for k, part := range parts(m) {
			p := parts(m)
			for x := range 256 {
				p[k] = append(bytes.Clone(part), byte(x))
				refused(t, joined(p...))
			}
			p[k] = append(bytes.Clone(part), part...)
			refused(t, joined(p...))
		}
	}
}

func TestDecodeOfPartsThatAreCutOff(t *testing.T) {
	for _, m := range samples() {
		for k, part := range parts(m) {
			p := parts(m)
			for n := range part {
				p[k] = part[:n]
				refused(t, joined(p...))
			}
		}
	}
}

func TestDecodeOfPartsWhoseBorderIsMoved(t *testing.T) {
	for _, m := range samples() {
		for k := range 4 {
			p := parts(m)
			p[k], p[k+1] = append(p[k], p[k+1][0]), p[k+1][1:] // together the same bytes
			refused(t, joined(p...))
			p = parts(m)
			last := len(p[k]) - 1
			p[k], p[k+1] = p[k][:last], append([]byte{p[k][last]}, p[k+1]...)
			refused(t, joined(p...))
		}
	}
}

// replaced: m's bytes with each piece in turn replaced by what by makes of it.
func replaced(m api.Module, by func(p piece) [][]byte, do func(b []byte)) {
	for k, list := range pieces(m) {
		p := parts(m)
		for i, old := range list {
			front, rest := glue(list[:i]), glue(list[i+1:])
			for _, b := range by(old) {
				p[k] = slices.Concat(front, b, rest)
				do(joined(p...))
			}
		}
	}
}

// longer: v in forms that are longer than they have to be.
func longer(b []byte) [][]byte {
	more := bytes.Clone(b)
	more[len(more)-1] |= 0x80
	return [][]byte{append(bytes.Clone(more), 0), append(bytes.Clone(more), 0x80, 0), append(bytes.Clone(more), 0x80, 0x80, 0x80, 0)}
}

func TestDecodeOfNumbersInAnotherForm(t *testing.T) {
	for _, m := range samples() {
		replaced(m, func(p piece) [][]byte {
			if p.what == pieceOther {
				return nil
			}
			return longer(p.b)
		}, func(b []byte) { refused(t, b) })
	}
}

func TestDecodeOfCountsFarAbove(t *testing.T) {
	for _, m := range samples() {
		replaced(m, func(p piece) [][]byte {
			if p.what != pieceCount {
				return nil
			}
			var out [][]byte
			for _, n := range []uint64{p.v + 65, p.v + 1<<7, p.v + 1<<8, p.v + 1<<16, p.v + 1<<31, p.v + 1<<32, p.v + 1<<62, p.v + 1<<63, math.MaxUint64, math.MaxUint64 - p.v, math.MaxInt64, math.MaxUint32} {
				out = append(out, binary.AppendUvarint(nil, n))
			}
			return append(out, bytes.Repeat([]byte{0xff}, 10), append(bytes.Repeat([]byte{0x80}, 9), 2)) // above 2^64 - 1
		}, func(b []byte) { refused(t, b) })
	}
}

func TestDecodeOfTypesAndInstructionsFarAbove(t *testing.T) {
	for _, m := range samples() {
		replaced(m, func(p piece) [][]byte {
			if p.what != pieceNumber {
				return nil
			}
			var out [][]byte
			for _, n := range []uint64{p.v + 1<<8, p.v + 1<<16, p.v + 1<<32, p.v + 1<<63, math.MaxUint64} {
				out = append(out, binary.AppendUvarint(nil, n))
			}
			return out
		}, func(b []byte) { refused(t, b) })
	}
}

func TestDecodeOfOtherCounts(t *testing.T) {
	for _, m := range samples() {
		replaced(m, func(p piece) [][]byte {
			if p.what != pieceCount {
				return nil
			}
			var out [][]byte
			for n := range uint64(70) {
				out = append(out, binary.AppendUvarint(nil, n))
			}
			return out
		}, func(b []byte) { whole(t, b) })
	}
}

func TestDecodeOfPiecesThatAreMissing(t *testing.T) {
	for _, m := range samples() {
		replaced(m, func(p piece) [][]byte { return [][]byte{nil, append(bytes.Clone(p.b), p.b...)} }, func(b []byte) { whole(t, b) })
	}
}

// turns: what a byte of so many is turned by: everything, if there are few; else each of its bits.
func turns(n int) []byte {
	if n > 100 {
		return []byte{1, 2, 4, 8, 16, 32, 64, 128}
	}
	var out []byte
	for x := range 255 {
		out = append(out, byte(x+1))
	}
	return out
}

func TestDecodeOfOneByteTurned(t *testing.T) {
	for _, m := range []api.Module{tiny(), small(), some(27), some(33)} {
		b := written(m)
		for k := range b {
			for _, x := range turns(len(b)) {
				turned := bytes.Clone(b)
				turned[k] ^= x
				whole(t, turned)
			}
		}
	}
}

func TestDecodeOfAnyBytes(t *testing.T) {
	r := rand.New(rand.NewPCG(6, 18))
	heads := [][]byte{nil, {5}, {5, 1, 0}, {5, 1, 0, 7, 1, 0, 1, 0, 0, 1, 26}, written(tiny())[:14]}
	taken := 0
	for range 100000 {
		b := bytes.Clone(heads[r.IntN(len(heads))])
		for range r.IntN(9) {
			b = append(b, byte(r.IntN([]int{2, 6, 256}[r.IntN(3)])))
		}
		whole(t, b)
		if _, e := Decode(b); e == api.OK {
			taken++
		}
	}
	if taken == 0 {
		t.Error("none that is good: the test tells little")
	}
}

func FuzzDecode(f *testing.F) {
	for _, m := range samples() {
		f.Add(written(m))
	}
	f.Fuzz(func(t *testing.T, b []byte) { whole(t, b) })
}
