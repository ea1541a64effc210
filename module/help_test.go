package module

import (
	"bytes"
	"encoding/binary"
	"fmt"
	"math/rand/v2"
	"reflect"
	"strings"
	"testing"

	"chrysalis/api"
)

// The types that the tests speak of most.
var (
	number = api.Type{Kind: api.Int}
	text   = api.Type{Kind: api.Bytes}
	han    = api.Type{Kind: api.Han, N: 2}
)

// rec: the type of a record.
func rec(n int) api.Type { return api.Type{Kind: api.Rec, N: n} }

// in: an instruction by its three numbers.
func in(op, a, b int) api.Instr { return api.Instr{Op: op, A: a, B: b} }

// ret: the shortest code.
func ret() []api.Instr { return []api.Instr{{Op: api.OpRet}} }

// many: n times x.
func many[T any](n int, x T) []T {
	out := make([]T, n)
	for k := range out {
		out[k] = x
	}
	return out
}

// tiny: a module with as little as may be.
func tiny() api.Module {
	return api.Module{Funcs: []api.Func{{Ret: number, Code: ret()}}}
}

// small: a module with something in each of its lists.
func small() api.Module {
	return api.Module{
		Recs:    [][]api.Type{{number, rec(1)}, {text}},
		Funcs:   []api.Func{{Args: []api.Type{rec(0)}, Ret: number, Locals: []api.Type{han, {Kind: api.Any}}, Code: []api.Instr{in(api.OpInt, 1, 0), in(api.OpField, 0, 200), in(api.OpRet, 0, 0)}}, {Ret: text, Code: ret()}},
		Imports: []api.Import{{Args: []api.Type{number, han}, Ret: han}},
		Ints:    []uint64{7, 0x1122334455667788},
		Texts:   []string{"hi", "", "\x00\xff"},
	}
}

// smallBytes: small as bytes, by hand.
func smallBytes() []byte {
	return []byte{
		5,
		9, 2, 2, 1, 0, 4, 1, 1, 2, 0, // records: two; of two fields, Int, Rec 1; of one, Bytes
		25, 2, // functions: two
		1, 4, 0, 1, 0, 2, 5, 2, 7, 0, 3, 0, 1, 29, 0, 0xc8, 1, 26,
		0, 2, 0, 0, 1, 26,
		8, 1, 2, 1, 0, 5, 2, 5, 2, // imports: one, of Int, Han 2, to Han 2
		17, 2, 7, 0, 0, 0, 0, 0, 0, 0, 0x88, 0x77, 0x66, 0x55, 0x44, 0x33, 0x22, 0x11,
		8, 3, 2, 'h', 'i', 0, 2, 0, 0xff,
	}
}

// full: a module with as much of everything as may be.
func full() api.Module {
	m := api.Module{}
	for k := range api.MaxRecs {
		m.Recs = append(m.Recs, many(api.MaxFields, rec(api.MaxRecs-1-k)))
	}
	for k := range api.MaxFuncs {
		m.Funcs = append(m.Funcs, api.Func{
			Args: many(api.MaxArgs, rec(k)), Ret: api.Type{Kind: api.Han, N: api.MaxKinds - 1},
			Locals: many(api.MaxLocals-api.MaxArgs, api.Type{Kind: api.Ints}), Code: many(api.MaxCode, in(api.OpPut, 255, 254-k)),
		})
	}
	m.Imports = many(api.MaxImports, api.Import{Args: many(api.MaxArgs, han), Ret: number})
	m.Ints = many(api.MaxConsts, ^uint64(0))
	m.Texts = many(api.MaxConsts, strings.Repeat("\xfe", api.MaxText))
	return m
}

// some: one of many modules that fit, always the same for one seed.
func some(seed uint64) api.Module {
	r := rand.New(rand.NewPCG(seed, 18))
	upTo := func(n int) int { return r.IntN(n + 1) }
	m := api.Module{Recs: make([][]api.Type, upTo(api.MaxRecs))}
	oneType := func() api.Type {
		for {
			t := api.Type{Kind: upTo(9), N: upTo(9) * upTo(1)}
			if isGood(t, len(m.Recs)) {
				return t
			}
		}
	}
	types := func(n int) []api.Type {
		out := make([]api.Type, n)
		for k := range out {
			out[k] = oneType()
		}
		return out
	}
	for k := range m.Recs {
		m.Recs[k] = types(upTo(api.MaxFields))
	}
	for range 1 + upTo(api.MaxFuncs-1) {
		args := types(upTo(api.MaxArgs))
		f := api.Func{Args: args, Ret: oneType(), Locals: types(upTo(api.MaxLocals - len(args)))}
		for range 1 + upTo(api.MaxCode-1) {
			op := r.IntN(api.Ops)
			f.Code = append(f.Code, in(op, upTo(255)*min(having(op), 1), upTo(255)*(having(op)/2)))
		}
		m.Funcs = append(m.Funcs, f)
	}
	for range upTo(api.MaxImports) {
		m.Imports = append(m.Imports, api.Import{Args: types(upTo(api.MaxArgs)), Ret: oneType()})
	}
	for range upTo(api.MaxConsts) {
		m.Ints = append(m.Ints, r.Uint64()>>upTo(63))
	}
	for range upTo(api.MaxConsts) {
		b := make([]byte, upTo(api.MaxText))
		for k := range b {
			b[k] = byte(r.Uint32())
		}
		m.Texts = append(m.Texts, string(b))
	}
	return m
}

// fitting: modules that fit, the least and the greatest among them.
func fitting() []api.Module {
	out := []api.Module{tiny(), small(), full()}
	for seed := range uint64(40) {
		out = append(out, some(seed))
	}
	return out
}

// having: how many numbers an instruction has, by its place in api's list; -1 of none.
func having(op int) int {
	some := map[int]int{0: 1, 1: 1, 3: 1, 4: 1, 23: 1, 24: 1, 25: 1, 27: 1, 28: 1, 29: 2, 30: 2}
	if op < 0 || op >= 42 {
		return -1
	}
	return some[op]
}

// isGood: whether a type may be there, by the chapter on types.
func isGood(t api.Type, recs int) bool {
	most := map[int]int{1: 1, 2: 1, 3: 1, 4: recs, 5: 4, 7: 1}
	return t.N >= 0 && t.N < most[t.Kind]
}

// isCode: whether an instruction may be there, by the chapter on instructions.
func isCode(i api.Instr) bool {
	most := [3][2]int{{0, 0}, {255, 0}, {255, 255}}
	n := having(i.Op)
	return n >= 0 && i.A >= 0 && i.A <= most[n][0] && i.B >= 0 && i.B <= most[n][1]
}

// What a piece of a module's bytes tells.
const (
	pieceCount  = iota // how many there are
	pieceNumber        // a type's or an instruction's number, by Var
	pieceOther
)

// piece: some bytes of a part, and what they tell.
type piece struct {
	what int
	v    uint64
	b    []byte
}

// writer: a part, written once more by the library's own numbers, whether it may be or not.
type writer struct{ pieces []piece }

func (w *writer) put(what int, v uint64) {
	w.pieces = append(w.pieces, piece{what, v, binary.AppendUvarint(nil, v)})
}

func (w *writer) other(b []byte) { w.pieces = append(w.pieces, piece{pieceOther, 0, b}) }

func (w *writer) oneType(t api.Type) {
	w.put(pieceNumber, uint64(t.Kind))
	w.put(pieceNumber, uint64(t.N))
}

func (w *writer) types(list []api.Type) {
	w.put(pieceCount, uint64(len(list)))
	for _, t := range list {
		w.oneType(t)
	}
}

func (w *writer) code(list []api.Instr) {
	w.put(pieceCount, uint64(len(list)))
	for _, i := range list {
		w.other([]byte{byte(i.Op)})
		if having(i.Op) > 0 {
			w.put(pieceNumber, uint64(i.A))
		}
		if having(i.Op) > 1 {
			w.put(pieceNumber, uint64(i.B))
		}
	}
}

// pieces: the five parts of m, in pieces.
func pieces(m api.Module) [][]piece {
	var w [5]writer
	w[0].put(pieceCount, uint64(len(m.Recs)))
	for _, fields := range m.Recs {
		w[0].types(fields)
	}
	w[1].put(pieceCount, uint64(len(m.Funcs)))
	for _, f := range m.Funcs {
		w[1].types(f.Args)
		w[1].oneType(f.Ret)
		w[1].types(f.Locals)
		w[1].code(f.Code)
	}
	w[2].put(pieceCount, uint64(len(m.Imports)))
	for _, i := range m.Imports {
		w[2].types(i.Args)
		w[2].oneType(i.Ret)
	}
	w[3].put(pieceCount, uint64(len(m.Ints)))
	for _, v := range m.Ints {
		w[3].other(binary.LittleEndian.AppendUint64(nil, v))
	}
	w[4].put(pieceCount, uint64(len(m.Texts)))
	for _, s := range m.Texts {
		w[4].put(pieceCount, uint64(len(s)))
		w[4].other([]byte(s))
	}
	return [][]piece{w[0].pieces, w[1].pieces, w[2].pieces, w[3].pieces, w[4].pieces}
}

// parts: the five parts of m.
func parts(m api.Module) [][]byte {
	var out [][]byte
	for _, list := range pieces(m) {
		out = append(out, glue(list))
	}
	return out
}

// glue: what the pieces come to.
func glue(list []piece) []byte {
	var out []byte
	for _, p := range list {
		out = append(out, p.b...)
	}
	return out
}

// joined: parts as one, written once more.
func joined(parts ...[]byte) []byte {
	out := binary.AppendUvarint(nil, uint64(len(parts)))
	for _, p := range parts {
		out = append(binary.AppendUvarint(out, uint64(len(p))), p...)
	}
	return out
}

// written: m as bytes, written once more, whether it fits or not.
func written(m api.Module) []byte { return joined(parts(m)...) }

// dump: all of m, its lists' spare room included, as a text; nil and empty lists are the same in it.
func dump(m api.Module) string {
	var b strings.Builder
	for _, fields := range m.Recs[:cap(m.Recs)] {
		fmt.Fprintln(&b, "rec", len(fields), fields[:cap(fields)])
	}
	for _, f := range m.Funcs[:cap(m.Funcs)] {
		fmt.Fprintln(&b, "func", len(f.Args), f.Args[:cap(f.Args)], f.Ret, len(f.Locals), f.Locals[:cap(f.Locals)], len(f.Code), f.Code[:cap(f.Code)])
	}
	for _, i := range m.Imports[:cap(m.Imports)] {
		fmt.Fprintln(&b, "import", len(i.Args), i.Args[:cap(i.Args)], i.Ret)
	}
	fmt.Fprintln(&b, len(m.Recs), len(m.Funcs), len(m.Imports), len(m.Ints), m.Ints[:cap(m.Ints)], len(m.Texts))
	fmt.Fprintf(&b, "%q", m.Texts[:cap(m.Texts)])
	return b.String()
}

// trim: list again, with more room behind it for n of x.
func trim[T any](list []T, n int, x T) []T {
	out := append(append(make([]T, 0, len(list)+n), list...), many(n, x)...)
	return out[:len(list)]
}

// again: m in memory of its own, with n of some things in the room behind each list.
func again(m api.Module, n int) api.Module {
	spare := api.Type{Kind: 77, N: 78}
	out := api.Module{Recs: trim(m.Recs, n, []api.Type{spare}), Funcs: trim(m.Funcs, n, api.Func{Ret: spare}), Imports: trim(m.Imports, n, api.Import{Ret: spare}), Ints: trim(m.Ints, n, 79), Texts: trim(m.Texts, n, "spare")}
	for k, fields := range out.Recs {
		out.Recs[k] = trim(fields, n, spare)
	}
	for k, f := range out.Funcs {
		out.Funcs[k] = api.Func{Args: trim(f.Args, n, spare), Ret: f.Ret, Locals: trim(f.Locals, n, spare), Code: trim(f.Code, n, in(80, 81, 82))}
	}
	for k, i := range out.Imports {
		out.Imports[k] = api.Import{Args: trim(i.Args, n, spare), Ret: i.Ret}
	}
	return out
}

// equal: whether the same stands in a and in b; nil and empty lists are the same.
func equal(a, b api.Module) bool { return reflect.DeepEqual(again(a, 0), again(b, 0)) }

// taken: that m and b are each other's.
func taken(t *testing.T, m api.Module, b []byte) {
	t.Helper()
	if got, e := Encode(m); e != api.OK || !bytes.Equal(got, b) {
		t.Fatalf("Encode(%+v): % x, %d; not % x", m, got, e, b)
	}
	if got, e := Decode(b); e != api.OK || !equal(got, m) {
		t.Fatalf("Decode(% x): %+v, %d; not %+v", b, got, e, m)
	}
}

// unfit: that nothing is made of m.
func unfit(t *testing.T, m api.Module) {
	t.Helper()
	if got, e := Encode(m); e != api.ErrForm || len(got) != 0 {
		t.Fatalf("Encode(%+v): % x, %d", m, got, e)
	}
	if got := Print(m); got != 0 {
		t.Fatalf("Print(%+v): %x", m, got)
	}
}

// refused: that nothing is made of b.
func refused(t *testing.T, b []byte) {
	t.Helper()
	if got, e := Decode(b); e != api.ErrForm || !equal(got, api.Module{}) {
		t.Fatalf("Decode(% x): %+v, %d", b, got, e)
	}
}

// whole: that b, whatever it is, is refused, or is the bytes of a module that fits.
func whole(t *testing.T, b []byte) {
	t.Helper()
	m, e := Decode(b)
	if e != api.OK {
		refused(t, b)
		return
	}
	if !isFit(m) {
		t.Fatalf("Decode(% x): %+v does not fit", b, m)
	}
	if got, e := Encode(m); e != api.OK || !bytes.Equal(got, b) || !bytes.Equal(written(m), b) {
		t.Fatalf("Encode of Decode(% x): % x, %d", b, got, e)
	}
}

// isFit: whether m fits, by the chapter's words.
func isFit(m api.Module) bool {
	ok := len(m.Recs) <= 8 && len(m.Funcs) >= 1 && len(m.Funcs) <= 8 && len(m.Imports) <= 8 && len(m.Ints) <= 16 && len(m.Texts) <= 16
	var types []api.Type
	for _, fields := range m.Recs {
		ok = ok && len(fields) <= 6
		types = append(types, fields...)
	}
	for _, f := range m.Funcs {
		ok = ok && len(f.Args) <= 4 && len(f.Args)+len(f.Locals) <= 8 && len(f.Code) >= 1 && len(f.Code) <= 64
		types = append(append(append(types, f.Args...), f.Locals...), f.Ret)
		for _, i := range f.Code {
			ok = ok && isCode(i)
		}
	}
	for _, i := range m.Imports {
		ok = ok && len(i.Args) <= 4
		types = append(append(types, i.Args...), i.Ret)
	}
	for _, t := range types {
		ok = ok && isGood(t, len(m.Recs))
	}
	for _, s := range m.Texts {
		ok = ok && len(s) <= 32
	}
	return ok
}
