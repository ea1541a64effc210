package module

import (
	"bytes"
	"fmt"
	"hash/crc32"
	"math"
	"slices"
	"strings"
	"testing"

	"chrysalis/api"
)

func TestTinyByHand(t *testing.T) {
	taken(t, tiny(), []byte{5, 1, 0, 7, 1, 0, 1, 0, 0, 1, 26, 1, 0, 1, 0, 1, 0})
}

func TestSmallByHand(t *testing.T) {
	taken(t, small(), smallBytes())
}

func TestDecodeOfEncode(t *testing.T) { // the chapter's example
	for _, m := range fitting() {
		b, e := Encode(m)
		if e != api.OK {
			t.Fatalf("Encode(%+v): %d", m, e)
		}
		got, e := Decode(b)
		if e != api.OK || !Same(got, m) || !Same(m, got) || !equal(got, m) {
			t.Errorf("Decode of Encode(%+v): %+v, %d", m, got, e)
		}
	}
}

func TestAsBytes(t *testing.T) {
	for _, m := range fitting() {
		taken(t, m, written(m))
	}
}

// list: a list of a module's: how many it may have, and one that has so many.
type list struct {
	name        string
	least, most int
	of          func(n int) api.Module
}

// function: a module whose function at, of three, is f, beside a record.
func function(at int, f api.Func) api.Module {
	m := api.Module{Recs: [][]api.Type{{number}}, Funcs: many(3, tiny().Funcs[0])}
	m.Funcs[at] = f
	return m
}

// lists: each list that a module has.
func lists() []list {
	out := []list{
		{"records", 0, api.MaxRecs, func(n int) api.Module {
			return api.Module{Recs: many(n, []api.Type{number}), Funcs: tiny().Funcs}
		}},
		{"records without fields", 0, api.MaxRecs, func(n int) api.Module {
			return api.Module{Recs: many(n, []api.Type(nil)), Funcs: tiny().Funcs}
		}},
		{"functions", 1, api.MaxFuncs, func(n int) api.Module {
			return api.Module{Funcs: many(n, tiny().Funcs[0])}
		}},
		{"imports", 0, api.MaxImports, func(n int) api.Module {
			return api.Module{Funcs: tiny().Funcs, Imports: many(n, api.Import{Ret: number})}
		}},
		{"numbers", 0, api.MaxConsts, func(n int) api.Module {
			return api.Module{Funcs: tiny().Funcs, Ints: many(n, uint64(9))}
		}},
		{"texts", 0, api.MaxConsts, func(n int) api.Module {
			return api.Module{Funcs: tiny().Funcs, Texts: many(n, "a")}
		}},
	}
	for at := range 3 {
		out = append(out, listsAt(at)...)
	}
	return out
}

// listsAt: each list that stands in the element at, of three, of another one.
func listsAt(at int) []list {
	out := []list{
		{fmt.Sprint("fields of record ", at), 0, api.MaxFields, func(n int) api.Module {
			m := api.Module{Recs: make([][]api.Type, 3), Funcs: tiny().Funcs}
			m.Recs[at] = many(n, text)
			return m
		}},
		{fmt.Sprint("arguments of function ", at), 0, api.MaxArgs, func(n int) api.Module {
			return function(at, api.Func{Args: many(n, rec(0)), Ret: number, Code: ret()})
		}},
		{fmt.Sprint("instructions of function ", at), 1, api.MaxCode, func(n int) api.Module {
			return function(at, api.Func{Ret: number, Code: many(n, in(api.OpGet, 200, 0))})
		}},
		{fmt.Sprint("arguments of import ", at), 0, api.MaxArgs, func(n int) api.Module {
			m := api.Module{Funcs: tiny().Funcs, Imports: many(3, api.Import{Ret: number})}
			m.Imports[at].Args = many(n, han)
			return m
		}},
		{fmt.Sprint("bytes of text ", at), 0, api.MaxText, func(n int) api.Module {
			m := api.Module{Funcs: tiny().Funcs, Texts: make([]string, 3)}
			m.Texts[at] = strings.Repeat("\x80", n)
			return m
		}},
	}
	for args := range api.MaxArgs + 1 {
		out = append(out, list{fmt.Sprint("locals of function ", at, " behind arguments ", args), 0, api.MaxLocals - args, func(n int) api.Module {
			return function(at, api.Func{Args: many(args, number), Ret: number, Locals: many(n, han), Code: ret()})
		}})
	}
	for locals := api.MaxLocals - api.MaxArgs; locals <= api.MaxLocals; locals++ {
		out = append(out, list{fmt.Sprint("arguments of function ", at, " ahead of locals ", locals), 0, api.MaxLocals - locals, func(n int) api.Module {
			return function(at, api.Func{Args: many(n, number), Ret: number, Locals: many(locals, text), Code: ret()})
		}})
	}
	return out
}

func TestLimits(t *testing.T) {
	if api.MaxRecs != 8 || api.MaxFields != 6 || api.MaxFuncs != 8 || api.MaxArgs != 4 || api.MaxLocals != 8 || api.MaxCode != 64 || api.MaxImports != 8 || api.MaxConsts != 16 || api.MaxText != 32 {
		t.Fatal("limits that the tests do not know")
	}
	for _, l := range lists() {
		t.Run(l.name, func(t *testing.T) {
			for n := range l.most + 1 {
				if m := l.of(n); n >= l.least {
					taken(t, m, written(m))
				} else {
					unfit(t, m)
					refused(t, written(m))
				}
			}
			for _, n := range []int{l.most + 1, l.most + 2, l.most + 8, 127, 128, 255, 256, 256 + l.least, 256 + l.most, 1 << 14} {
				unfit(t, l.of(n))
				refused(t, written(l.of(n)))
			}
		})
	}
}

func TestMoreThanOneTooMany(t *testing.T) {
	for _, l := range lists() {
		m, n := l.of(l.most+1), l.of(l.most+1)
		m.Funcs, n.Texts = nil, many(17, "")
		unfit(t, m)
		unfit(t, n)
		refused(t, written(m))
		refused(t, written(n))
	}
	unfit(t, api.Module{})
	refused(t, written(api.Module{}))
}

// places: modules of so many records, each with x at another one of the places at which a type stands.
func places(recs int, x api.Type) []api.Module {
	var out []api.Module
	with := func(change func(m *api.Module)) {
		m := api.Module{Recs: many(recs, []api.Type{number, text}), Funcs: many(2, tiny().Funcs[0]), Imports: many(2, api.Import{Args: many(2, number), Ret: number})}
		change(&m)
		out = append(out, m)
	}
	for k := range recs {
		with(func(m *api.Module) { m.Recs[k] = []api.Type{x, number} })
		with(func(m *api.Module) { m.Recs[k] = []api.Type{number, number, x} })
	}
	for k := range 2 {
		with(func(m *api.Module) { m.Funcs[k].Args = []api.Type{x, number} })
		with(func(m *api.Module) { m.Funcs[k].Args = []api.Type{number, x} })
		with(func(m *api.Module) { m.Funcs[k].Ret = x })
		with(func(m *api.Module) { m.Funcs[k].Locals = []api.Type{x, number} })
		with(func(m *api.Module) { m.Funcs[k].Locals = []api.Type{number, x} })
		with(func(m *api.Module) { m.Imports[k].Args = []api.Type{x, number} })
		with(func(m *api.Module) { m.Imports[k].Args = []api.Type{number, x} })
		with(func(m *api.Module) { m.Imports[k].Ret = x })
	}
	return out
}

// typesAround: types that may be, types beside them, and types that are one of them in their lowest bits alone.
func typesAround(recs int) []api.Type {
	out := []api.Type{{Kind: math.MaxInt}, {Kind: math.MinInt + 1}, {Kind: 256 + api.Int}, {Kind: api.Int, N: math.MinInt}, {Kind: api.Rec, N: math.MaxInt}, {Kind: api.Han, N: -1 << 32}, {Kind: api.Rec, N: -1}}
	for k := -1; k <= 10; k++ {
		for _, n := range []int{-1, 0, 1, recs - 1, recs, recs + 1, api.MaxKinds - 1, api.MaxKinds, 127, 128, 255, 256} {
			out = append(out, api.Type{Kind: k, N: n})
		}
	}
	return out
}

func TestTypesEverywhere(t *testing.T) {
	for recs := range api.MaxRecs + 1 {
		for _, x := range typesAround(recs) {
			for _, m := range places(recs, x) {
				if isGood(x, recs) {
					taken(t, m, written(m))
				} else {
					unfit(t, m)
					refused(t, written(m))
				}
			}
		}
	}
}

func TestARecordsNumber(t *testing.T) {
	for recs := 1; recs <= api.MaxRecs; recs++ {
		for _, m := range places(recs, rec(recs-1)) {
			taken(t, m, written(m))
		}
		for _, m := range places(recs, rec(recs)) {
			unfit(t, m)
			refused(t, written(m))
		}
	}
	for _, m := range places(0, rec(0)) {
		unfit(t, m)
		refused(t, written(m))
	}
}

// codeAround: instructions that may be, and those beside them.
func codeAround() []api.Instr {
	var out []api.Instr
	for _, op := range []int{math.MinInt, -1, 42, 43, 127, 128, 255, 256, 256 + api.OpGet, math.MaxInt} {
		out = append(out, in(op, 0, 0))
	}
	for op := range api.Ops {
		for _, a := range []int{math.MinInt, -1, 0, 1, 127, 128, 255, 256, math.MaxInt} {
			for _, b := range []int{-1, 0, 1, 128, 255, 256, 1 << 32} {
				out = append(out, in(op, a, b))
			}
		}
	}
	return out
}

func TestInstructionsEverywhere(t *testing.T) {
	for _, i := range codeAround() {
		for at := range 3 {
			for place := range 3 {
				code := many(3, in(api.OpRet, 0, 0))
				code[place] = i
				m := function(at, api.Func{Ret: number, Code: code})
				if isCode(i) {
					taken(t, m, written(m))
					continue
				}
				unfit(t, m)
				if bytesAreBad(i) {
					refused(t, written(m))
				}
			}
		}
	}
}

// bytesAreBad: whether what is wrong with i is to be seen in what the tests write of it.
func bytesAreBad(i api.Instr) bool {
	n := having(i.Op)
	far := func(x int) bool { return x < 0 || x > 255 }
	return n < 0 && having(int(byte(i.Op))) < 0 || n > 0 && far(i.A) || n > 1 && far(i.B)
}

func TestOnlyALastOneThatIsNotGood(t *testing.T) {
	for _, change := range []func(m *api.Module){
		func(m *api.Module) { m.Recs[7][5] = api.Type{Kind: api.None} },
		func(m *api.Module) { m.Recs[7][5] = api.Type{Kind: api.Null} },
		func(m *api.Module) { m.Funcs[7].Args[3] = rec(8) },
		func(m *api.Module) { m.Funcs[7].Ret = api.Type{} },
		func(m *api.Module) { m.Funcs[7].Locals[3] = api.Type{Kind: api.Int, N: 1} },
		func(m *api.Module) { m.Funcs[7].Code[63] = in(api.OpPut, 256, 0) },
		func(m *api.Module) { m.Imports[7].Args[3] = api.Type{Kind: api.Han, N: 4} },
		func(m *api.Module) { m.Imports[7].Ret = api.Type{Kind: api.Any, N: 1} },
		func(m *api.Module) { m.Texts[15] += "x" },
	} {
		m := again(full(), 0)
		change(&m)
		unfit(t, m)
		refused(t, written(m))
	}
}

func TestNumbersOfAllWidths(t *testing.T) {
	for bit := range 64 {
		for _, v := range []uint64{1 << bit, 1<<bit - 1, ^uint64(0) << bit, 0x0102030405060708 << bit} {
			m := tiny()
			m.Ints = []uint64{v, 0, ^v}
			taken(t, m, written(m))
		}
	}
}

func TestTextsOfAllBytes(t *testing.T) {
	for x := range 256 {
		m := tiny()
		m.Texts = []string{string([]byte{byte(x)}), "", string([]byte{'a', byte(x), 0xc3})}
		taken(t, m, written(m))
	}
}

// change: what makes another module of small, and whether that one fits.
type change struct {
	name string
	fits bool
	do   func(m *api.Module)
}

// changes: each thing that stands in small, changed; each list, longer and shorter; borders, moved.
func changes() []change {
	return []change{
		{"a record more", true, func(m *api.Module) { m.Recs = append(m.Recs, nil) }},
		{"a record less", false, func(m *api.Module) { m.Recs = m.Recs[:1] }},
		{"no records", false, func(m *api.Module) { m.Recs = nil }},
		{"records about", true, func(m *api.Module) { slices.Reverse(m.Recs) }},
		{"a field's kind", true, func(m *api.Module) { m.Recs[0][0].Kind = api.Ints }},
		{"a field's number", true, func(m *api.Module) { m.Recs[0][1].N = 0 }},
		{"a field more", true, func(m *api.Module) { m.Recs[1] = append(m.Recs[1], number) }},
		{"a field less", true, func(m *api.Module) { m.Recs[1] = nil }},
		{"a field goes over", true, func(m *api.Module) { m.Recs = [][]api.Type{{number}, {rec(1), text}} }},
		{"a function more", true, func(m *api.Module) { m.Funcs = append(m.Funcs, tiny().Funcs[0]) }},
		{"a function less", true, func(m *api.Module) { m.Funcs = m.Funcs[:1] }},
		{"no functions", false, func(m *api.Module) { m.Funcs = nil }},
		{"functions about", true, func(m *api.Module) { slices.Reverse(m.Funcs) }},
		{"an argument's number", true, func(m *api.Module) { m.Funcs[0].Args[0].N = 1 }},
		{"an argument more", true, func(m *api.Module) { m.Funcs[1].Args = []api.Type{number} }},
		{"an argument less", true, func(m *api.Module) { m.Funcs[0].Args = nil }},
		{"an argument becomes a local", true, func(m *api.Module) {
			m.Funcs[0].Args, m.Funcs[0].Locals = nil, append([]api.Type{rec(0)}, m.Funcs[0].Locals...)
		}},
		{"a result's kind", true, func(m *api.Module) { m.Funcs[1].Ret.Kind = api.Int }},
		{"a result's number", false, func(m *api.Module) { m.Funcs[0].Ret.N = 1 }},
		{"a local's number", true, func(m *api.Module) { m.Funcs[0].Locals[0].N = 3 }},
		{"the last local's kind", true, func(m *api.Module) { m.Funcs[0].Locals[1].Kind = api.Int }},
		{"a local less", true, func(m *api.Module) { m.Funcs[0].Locals = m.Funcs[0].Locals[:1] }},
		{"a local more", true, func(m *api.Module) { m.Funcs[1].Locals = []api.Type{number} }},
		{"locals about", true, func(m *api.Module) { slices.Reverse(m.Funcs[0].Locals) }},
		{"an instruction's Op", true, func(m *api.Module) { m.Funcs[0].Code[0].Op = api.OpText }},
		{"an instruction's A", true, func(m *api.Module) { m.Funcs[0].Code[0].A = 2 }},
		{"an instruction's B", true, func(m *api.Module) { m.Funcs[0].Code[1].B = 199 }},
		{"a B that it has not", false, func(m *api.Module) { m.Funcs[0].Code[0].B = 1 }},
		{"an instruction more", true, func(m *api.Module) { m.Funcs[1].Code = append(m.Funcs[1].Code, in(api.OpAdd, 0, 0)) }},
		{"an instruction less", true, func(m *api.Module) { m.Funcs[0].Code = m.Funcs[0].Code[:2] }},
		{"no instructions", false, func(m *api.Module) { m.Funcs[1].Code = nil }},
		{"an import more", true, func(m *api.Module) { m.Imports = append(m.Imports, m.Imports[0]) }},
		{"an import less", true, func(m *api.Module) { m.Imports = nil }},
		{"an import's argument", true, func(m *api.Module) { m.Imports[0].Args[1].N = 0 }},
		{"an import's argument less", true, func(m *api.Module) { m.Imports[0].Args = m.Imports[0].Args[:1] }},
		{"an import's argument more", true, func(m *api.Module) { m.Imports[0].Args = append(m.Imports[0].Args, number) }},
		{"an import's result's kind", false, func(m *api.Module) { m.Imports[0].Ret.Kind = api.Int }},
		{"an import's result's number", true, func(m *api.Module) { m.Imports[0].Ret.N = 1 }},
		{"a number's lowest bit", true, func(m *api.Module) { m.Ints[0] ^= 1 }},
		{"a number's highest bit", true, func(m *api.Module) { m.Ints[1] ^= 1 << 63 }},
		{"a number more", true, func(m *api.Module) { m.Ints = append(m.Ints, 0) }},
		{"a number less", true, func(m *api.Module) { m.Ints = m.Ints[:1] }},
		{"numbers about", true, func(m *api.Module) { slices.Reverse(m.Ints) }},
		{"a text's byte", true, func(m *api.Module) { m.Texts[0] = "ho" }},
		{"a text's great letter", true, func(m *api.Module) { m.Texts[0] = "Hi" }},
		{"a text more", true, func(m *api.Module) { m.Texts = append(m.Texts, "") }},
		{"a text less", true, func(m *api.Module) { m.Texts = m.Texts[:2] }},
		{"a byte goes over", true, func(m *api.Module) { m.Texts[0], m.Texts[1] = "h", "i" }},
		{"bytes that are no rune", true, func(m *api.Module) { m.Texts[2] = "\x00\xfe" }},
	}
}

func TestSameOfChanged(t *testing.T) {
	for _, c := range changes() {
		m := again(small(), 0)
		c.do(&m)
		if Same(m, small()) || Same(small(), m) {
			t.Errorf("%s: still the same", c.name)
		}
		if !Same(m, m) || !Same(m, again(m, 2)) || !Same(again(m, 2), m) {
			t.Errorf("%s: not the same as itself", c.name)
		}
		if !c.fits {
			unfit(t, m)
			continue
		}
		taken(t, m, written(m))
		if bytes.Equal(written(m), smallBytes()) || Print(m) == Print(small()) {
			t.Errorf("%s: the same bytes, or the same Print", c.name)
		}
	}
}

func TestSameOfPairs(t *testing.T) {
	all := append(fitting(), api.Module{})
	for _, c := range changes() {
		m := again(small(), 0)
		c.do(&m)
		all = append(all, m)
	}
	for i, a := range all {
		for k, b := range all {
			if Same(a, b) != equal(a, b) || i == k && !Same(a, b) {
				t.Errorf("Same of %d and %d: %v", i, k, Same(a, b))
			}
		}
	}
}

// hollow: modules of which each list that may be empty is made by empty.
func hollow(empty bool) []api.Module {
	types, code := []api.Type(nil), []api.Instr(nil)
	m := api.Module{}
	if empty {
		types, code = []api.Type{}, []api.Instr{}
		m = api.Module{Recs: [][]api.Type{}, Funcs: []api.Func{}, Imports: []api.Import{}, Ints: []uint64{}, Texts: []string{}}
	}
	n := m
	n.Recs = [][]api.Type{types, {number}, types}
	n.Funcs = []api.Func{{Args: types, Ret: number, Locals: types, Code: ret()}}
	n.Imports = []api.Import{{Args: types, Ret: number}}
	o := n
	o.Funcs = []api.Func{{Args: types, Ret: number, Locals: types, Code: code}}
	p := m
	p.Funcs = n.Funcs
	return []api.Module{m, n, o, p}
}

func TestNilAndEmpty(t *testing.T) {
	fit := []bool{false, true, false, true}
	for k, a := range hollow(false) {
		b := hollow(true)[k]
		for _, x := range []api.Module{a, b} {
			if !Same(a, x) || !Same(b, x) {
				t.Errorf("%d: not the same", k)
			}
			if fit[k] {
				taken(t, x, written(a))
			} else {
				unfit(t, x)
				refused(t, written(x))
			}
		}
		if Print(a) != Print(b) {
			t.Errorf("%d: another Print", k)
		}
	}
}

func TestSameOfThoseThatDoNotFit(t *testing.T) {
	a := api.Module{Recs: many(100, []api.Type{{Kind: -5, N: -6}}), Funcs: []api.Func{{Code: []api.Instr{in(-1, -2, -3)}}}, Texts: []string{strings.Repeat("x", 1000)}}
	if !Same(a, again(a, 3)) || Same(a, api.Module{}) || Same(api.Module{}, a) || !Same(api.Module{}, api.Module{}) {
		t.Error("Same")
	}
	b := again(a, 0)
	b.Recs[99][0].Kind = 0 // both are written as 0, if they are written at all
	c := again(a, 0)
	c.Funcs[0].Code[0].B = 0
	if Same(a, b) || Same(b, a) || Same(a, c) || Same(c, a) || Same(b, c) {
		t.Error("the same")
	}
}

func TestPrint(t *testing.T) {
	for _, m := range fitting() {
		if got, want := Print(m), crc32.ChecksumIEEE(written(m)); got != want {
			t.Errorf("Print(%+v): %x, not %x", m, got, want)
		}
	}
	if got, want := Print(small()), crc32.ChecksumIEEE(smallBytes()); got != want || got == 0 {
		t.Errorf("Print of small: %x, not %x", got, want)
	}
}
