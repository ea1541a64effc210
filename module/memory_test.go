package module

import (
	"bytes"
	"testing"

	"chrysalis/api"
)

func TestWhatIsHandedInStays(t *testing.T) {
	all := append(fitting(), api.Module{}, api.Module{Recs: many(9, []api.Type{number})})
	for _, m := range all {
		a, b := again(m, 3), again(m, 2)
		before, behind := dump(a), dump(b)
		Encode(a)
		Print(a)
		Same(a, b)
		Same(b, a)
		if dump(a) != before || dump(b) != behind {
			t.Errorf("changed: %+v", m)
		}
	}
}

func TestBytesThatAreHandedInStay(t *testing.T) {
	for _, m := range fitting() {
		want := append(written(m), 0x55, 0xaa, 0x55)
		all := bytes.Clone(want)
		b := all[:len(all)-3]
		Decode(b)
		Decode(b[:len(b)-1])
		if !bytes.Equal(all, want) {
			t.Errorf("changed: % x", want)
		}
	}
}

// spoil: all bytes of b changed, its spare room included.
func spoil(b []byte) {
	b = b[:cap(b)]
	for k := range b {
		b[k] ^= 0xff
	}
}

func TestDecodedHangsOnNoBytes(t *testing.T) {
	for _, m := range fitting() {
		b := append(make([]byte, 0, 1<<14), written(m)...)
		got, e := Decode(b)
		spoil(b)
		if e != api.OK || !equal(got, m) {
			t.Errorf("Decode keeps what it was given: %+v", m)
		}
	}
}

func TestEncodedIsNew(t *testing.T) {
	for _, m := range fitting() {
		a, _ := Encode(m)
		b, _ := Encode(m)
		spoil(a)
		c, _ := Encode(m)
		if !bytes.Equal(b, written(m)) || !bytes.Equal(c, written(m)) {
			t.Errorf("Encode shares its bytes: %+v", m)
		}
		spoil(b)
		if d, e := Decode(c); e != api.OK || !equal(d, m) {
			t.Errorf("Encode shares its bytes: %+v", m)
		}
	}
}

// fill: each element of list x, its spare room included.
func fill[T any](list []T, x T) {
	list = list[:cap(list)]
	for k := range list {
		list[k] = x
	}
}

// stays: whether each element of list is x.
func stays[T comparable](list []T, x T) bool {
	for _, y := range list {
		if y != x {
			return false
		}
	}
	return true
}

// inner: the lists of types, and those of instructions, that stand in m.
func inner(m api.Module) (types [][]api.Type, code [][]api.Instr) {
	types = append(types, m.Recs...)
	for _, f := range m.Funcs {
		types = append(types, f.Args, f.Locals)
		code = append(code, f.Code)
	}
	for _, i := range m.Imports {
		types = append(types, i.Args)
	}
	return types, code
}

func TestNoTwoListsOfAnswersShareMemory(t *testing.T) {
	for _, m := range fitting() {
		a, _ := Decode(written(m))
		b, _ := Decode(written(m))
		types, code := inner(a)
		moreTypes, moreCode := inner(b)
		types, code = append(types, moreTypes...), append(code, moreCode...)
		for k, list := range types {
			fill(list, api.Type{Kind: k})
		}
		for k, list := range code {
			fill(list, api.Instr{Op: k})
		}
		fill(a.Ints, 1)
		fill(b.Ints, 2)
		fill(a.Texts, "1")
		fill(b.Texts, "2")
		ok := stays(a.Ints, 1) && stays(b.Ints, 2) && stays(a.Texts, "1") && stays(b.Texts, "2")
		for k, list := range types {
			ok = ok && stays(list, api.Type{Kind: k})
		}
		for k, list := range code {
			ok = ok && stays(list, api.Instr{Op: k})
		}
		if !ok {
			t.Errorf("shared: %+v", m)
		}
	}
}

func TestOuterListsOfAnswersAreTheirOwn(t *testing.T) {
	for _, m := range fitting() {
		b := written(m)
		one, _ := Decode(b)
		other, _ := Decode(b)
		fill(one.Recs, nil)
		fill(one.Funcs, api.Func{})
		fill(one.Imports, api.Import{})
		if third, _ := Decode(b); !equal(other, m) || !equal(third, m) {
			t.Errorf("shared: %+v", m)
		}
	}
}

func TestAgainTheSame(t *testing.T) {
	for _, m := range append(fitting(), api.Module{}) {
		a, e := Encode(m)
		refused(t, []byte{5})
		Print(small())
		b, f := Encode(m)
		if !bytes.Equal(a, b) || e != f || Print(m) != Print(again(m, 1)) {
			t.Errorf("another answer: %+v", m)
		}
	}
}
