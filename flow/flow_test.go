package flow

import (
	"math"
	"slices"
	"testing"

	"chrysalis/api"
)

func TestAddOfTwoNumbers(t *testing.T) { // the chapter's example
	at(t, in(api.OpAdd, 0, 0), is(number, number), is(number))
}

// row: an instruction at home, what it takes just so, and what comes of it.
type row struct {
	i           api.Instr
	stack, then []api.Type
}

// rows: each of the chapter's lines, written out.
func rows() []row {
	out := []row{
		{in(api.OpInt, 0, 0), nil, is(number)}, {in(api.OpInt, 5, 0), nil, is(number)},
		{in(api.OpText, 0, 0), nil, is(text)}, {in(api.OpText, 6, 0), nil, is(text)},
		{in(api.OpNull, 0, 0), nil, is(null)},
		{in(api.OpGet, 0, 0), nil, is(han(0))}, {in(api.OpGet, 1, 0), nil, is(rec(1))}, {in(api.OpGet, 2, 0), nil, is(any0)},
		{in(api.OpGet, 3, 0), nil, is(list)}, {in(api.OpGet, 4, 0), nil, is(text)}, {in(api.OpGet, 5, 0), nil, is(number)},
		{in(api.OpSet, 0, 0), is(han(0)), nil}, {in(api.OpSet, 1, 0), is(rec(1)), nil}, {in(api.OpSet, 2, 0), is(any0), nil},
		{in(api.OpSet, 3, 0), is(list), nil}, {in(api.OpSet, 4, 0), is(text), nil}, {in(api.OpSet, 5, 0), is(number), nil},
		{in(api.OpPop, 0, 0), is(text), nil},
		{in(api.OpDup, 0, 0), is(rec(1)), is(rec(1), rec(1))},
		{in(api.OpSwap, 0, 0), is(text, number), is(number, text)},
		{in(api.OpTwist, 0, 0), is(number, number), is(number, number)},
		{in(api.OpJump, 4, 0), nil, nil},
		{in(api.OpZero, 0, 0), is(number), nil},
		{in(api.OpCall, 0, 0), nil, is(number)},
		{in(api.OpCall, 1, 0), is(han(0), rec(1), any0), is(rec(2))},
		{in(api.OpCall, 2, 0), is(number, text, rec(0), han(2)), is(han(3))},
		{in(api.OpCall, 3, 0), is(any0), is(any0)},
		{in(api.OpRet, 0, 0), is(rec(2)), nil},
		{in(api.OpHost, 0, 0), nil, is(number)},
		{in(api.OpHost, 1, 0), is(number, han(3)), is(han(0))},
		{in(api.OpHost, 2, 0), is(han(1), number, han(2), number), is(number)},
		{in(api.OpHost, 3, 0), nil, is(han(2))},
		{in(api.OpHost, 4, 0), is(number), is(number)},
		{in(api.OpNew, 0, 0), is(number, rec(2), text), is(rec(0))},
		{in(api.OpNew, 1, 0), nil, is(rec(1))},
		{in(api.OpNew, 2, 0), is(text, list, any0, han(1), rec(0), number), is(rec(2))},
		{in(api.OpField, 0, 0), is(rec(0)), is(number)}, {in(api.OpField, 0, 1), is(rec(0)), is(rec(2))},
		{in(api.OpField, 2, 3), is(rec(2)), is(han(1))}, {in(api.OpField, 2, 5), is(rec(2)), is(number)},
		{in(api.OpPut, 0, 0), is(rec(0), number), nil}, {in(api.OpPut, 0, 2), is(rec(0), text), nil},
		{in(api.OpPut, 2, 3), is(rec(2), han(1)), nil}, {in(api.OpPut, 2, 4), is(rec(2), rec(0)), nil},
		{in(api.OpInts, 0, 0), is(number), is(list)},
		{in(api.OpLoad, 0, 0), is(list, number), is(number)},
		{in(api.OpStore, 0, 0), is(list, number, number), nil},
		{in(api.OpLen, 0, 0), is(list), is(number)},
		{in(api.OpBytes, 0, 0), is(number), is(text)},
		{in(api.OpLoadB, 0, 0), is(text, number), is(number)},
		{in(api.OpStoreB, 0, 0), is(text, number, number), nil},
		{in(api.OpLenB, 0, 0), is(text), is(number)},
		{in(api.OpIsNull, 0, 0), is(null), is(number)},
		{in(api.OpSame, 0, 0), is(text, rec(0)), is(number)},
		{in(api.OpClose, 0, 0), is(han(2)), nil},
	}
	for op := api.OpAdd; op <= api.OpLt; op++ {
		out = append(out, row{in(op, 0, 0), is(number, number), is(number)})
	}
	return out
}

// beneath: what may stand below what an instruction takes; none of it is too many for any of them.
func beneath() [][]api.Type {
	return [][]api.Type{nil, is(none), is(number, number), is(api.Type{Kind: 9, N: 9}, null, text, api.Type{}), is(rec(3), han(7), any0, none, list, none)}
}

func TestEachInstruction(t *testing.T) {
	asked := map[int]int{}
	for _, r := range rows() {
		asked[r.i.Op]++
		at(t, r.i, r.stack, r.then)
		for _, below := range beneath() {
			at(t, r.i, slices.Concat(below, r.stack), slices.Concat(below, r.then))
		}
	}
	if len(asked) != api.Ops {
		t.Errorf("%d instructions of %d", len(asked), api.Ops)
	}
}

func TestEachInstructionWithEachThingThatItNames(t *testing.T) {
	asked := map[int]int{}
	for _, i := range everyone() {
		asked[i.Op]++
		m := home(i)
		wants, puts := told(m, m.Funcs[1], i)
		taken := just(wants)
		for _, below := range beneath() {
			at(t, i, slices.Concat(below, taken), slices.Concat(below, filled(puts, taken)))
		}
	}
	if len(asked) != api.Ops || asked[api.OpJump] != 5 || asked[api.OpField] != 9 || asked[api.OpPut] != 9 || asked[api.OpHost] != 5 {
		t.Errorf("too few of some: %v", asked)
	}
}

func TestEachInstructionInEachFunction(t *testing.T) {
	for f := range home(in(api.OpRet, 0, 0)).Funcs {
		for _, i := range everyone() {
			m := home(in(api.OpRet, 0, 0))
			if i.Op == api.OpGet || i.Op == api.OpSet || i.Op == api.OpJump || i.Op == api.OpZero {
				i.A = 0 // each of them has a first local and a first instruction
			}
			m.Funcs[f].Locals = append(m.Funcs[f].Locals, number)
			m.Funcs[f].Code = []api.Instr{i, in(api.OpRet, 0, 0)}
			wants, puts := told(m, m.Funcs[f], i)
			taken := just(wants)
			comes(t, m, f, 0, taken, filled(puts, taken), on(i, 0), api.OK)
		}
	}
}

func TestTooFew(t *testing.T) {
	for _, i := range everyone() {
		m := home(i)
		wants, _ := told(m, m.Funcs[1], i)
		taken := just(wants)
		for n := range taken {
			fails(t, i, taken[:n], api.ErrType)   // the lower ones
			fails(t, i, taken[n+1:], api.ErrType) // the upper ones
		}
	}
}

func TestEachPlaceWithEachType(t *testing.T) {
	good, bad := 0, 0
	for _, i := range everyone() {
		m := home(i)
		wants, puts := told(m, m.Funcs[1], i)
		for k, want := range wants {
			for _, x := range universe() {
				taken := just(wants)
				taken[k] = x
				below := is(none, text)
				if fits(x, want) {
					good++
					at(t, i, slices.Concat(below, taken), slices.Concat(below, filled(puts, taken)))
				} else {
					bad++
					fails(t, i, slices.Concat(below, taken), api.ErrType)
					fails(t, i, taken, api.ErrType)
				}
			}
		}
	}
	if good < 200 || bad < 1000 {
		t.Errorf("too little of one: %d, %d", good, bad)
	}
}

func TestAnotherTypeThatDoes(t *testing.T) {
	at(t, in(api.OpSet, 1, 0), is(null), nil)                           // Null for a record
	at(t, in(api.OpSet, 3, 0), is(null), nil)                           // for Ints
	at(t, in(api.OpSet, 4, 0), is(api.Type{Kind: api.Null, N: 5}), nil) // for Bytes, whatever its N is
	at(t, in(api.OpSet, 2, 0), is(rec(0)), nil)                         // a record for Any
	at(t, in(api.OpSet, 2, 0), is(null), nil)
	at(t, in(api.OpCall, 1, 0), is(han(0), null, list), is(rec(2))) // each place for itself
	at(t, in(api.OpCall, 3, 0), is(text), is(any0))                 // what is put is what the function has, not what was taken
	at(t, in(api.OpRet, 0, 0), is(null), nil)
	at(t, in(api.OpNew, 2, 0), is(null, null, null, han(1), null, number), is(rec(2)))
	at(t, in(api.OpField, 2, 2), is(null), is(any0)) // that there is nothing there is not told by types
	at(t, in(api.OpPut, 2, 2), is(null, text), nil)
	at(t, in(api.OpLoad, 0, 0), is(null, number), is(number))
	at(t, in(api.OpStoreB, 0, 0), is(null, number, number), nil)
	at(t, in(api.OpLen, 0, 0), is(null), is(number))
	at(t, in(api.OpIsNull, 0, 0), is(api.Type{Kind: api.Any, N: 3}), is(number))
	at(t, in(api.OpSame, 0, 0), is(any0, null), is(number))
	at(t, in(api.OpPop, 0, 0), is(api.Type{Kind: -5, N: 5}), nil)
	at(t, in(api.OpSwap, 0, 0), is(api.Type{Kind: 9}, none), is(none, api.Type{Kind: 9}))
	at(t, in(api.OpDup, 0, 0), is(none), is(none, none))
	at(t, in(api.OpDup, 0, 0), is(api.Type{Kind: api.Null, N: 5}), many(2, api.Type{Kind: api.Null, N: 5})) // as it was
}

func TestAnotherTypeThatDoesNot(t *testing.T) {
	fails(t, in(api.OpSet, 1, 0), is(any0), api.ErrType)   // Any for a record
	fails(t, in(api.OpSet, 1, 0), is(rec(2)), api.ErrType) // another record
	fails(t, in(api.OpSet, 2, 0), is(number), api.ErrType) // no reference for Any
	fails(t, in(api.OpSet, 2, 0), is(han(0)), api.ErrType)
	fails(t, in(api.OpSet, 5, 0), is(null), api.ErrType) // Null for a number
	fails(t, in(api.OpAdd, 0, 0), is(number, null), api.ErrType)
	fails(t, in(api.OpAdd, 0, 0), is(none, number), api.ErrType)
	fails(t, in(api.OpLt, 0, 0), is(number, text), api.ErrType)
	fails(t, in(api.OpZero, 0, 0), is(any0), api.ErrType)
	fails(t, in(api.OpLen, 0, 0), is(text), api.ErrType)
	fails(t, in(api.OpLenB, 0, 0), is(list), api.ErrType)
	fails(t, in(api.OpLoad, 0, 0), is(number, list), api.ErrType) // the other way round
	fails(t, in(api.OpLoadB, 0, 0), is(any0, number), api.ErrType)
	fails(t, in(api.OpPut, 0, 2), is(text, rec(0)), api.ErrType)
	fails(t, in(api.OpNew, 0, 0), is(text, rec(2), number), api.ErrType)
	fails(t, in(api.OpCall, 2, 0), is(han(2), rec(0), text, number), api.ErrType)
	fails(t, in(api.OpRet, 0, 0), is(any0), api.ErrType)
	fails(t, in(api.OpRet, 0, 0), is(rec(2), number), api.ErrType) // the top is asked, not what is below
	fails(t, in(api.OpIsNull, 0, 0), is(none), api.ErrType)
	fails(t, in(api.OpIsNull, 0, 0), is(number), api.ErrType)
	fails(t, in(api.OpSame, 0, 0), is(text, none), api.ErrType)
	fails(t, in(api.OpSame, 0, 0), is(han(0), han(0)), api.ErrType)
}

func TestHandles(t *testing.T) {
	places := []struct {
		i           api.Instr
		kind        int
		below, then []api.Type
	}{{in(api.OpSet, 0, 0), 0, nil, nil}, {in(api.OpHost, 1, 0), 3, is(number), is(han(0))}, {in(api.OpPut, 2, 3), 1, is(rec(2)), nil}}
	for n := range api.MaxKinds {
		at(t, in(api.OpClose, 0, 0), is(han(n)), nil)
		at(t, in(api.OpClose, 0, 0), is(han(0), han(n)), is(han(0)))
		for _, x := range places {
			stack := slices.Concat(x.below, is(han(n)))
			if n == x.kind {
				at(t, x.i, stack, x.then)
			} else {
				fails(t, x.i, stack, api.ErrType)
			}
		}
	}
	for _, x := range universe() {
		if x.Kind != api.Han {
			fails(t, in(api.OpClose, 0, 0), is(x), api.ErrType)
			fails(t, in(api.OpClose, 0, 0), is(han(1), x), api.ErrType)
		}
	}
	fails(t, in(api.OpClose, 0, 0), nil, api.ErrType)
}

func TestAnyTwoAndAnyOne(t *testing.T) {
	for _, x := range universe() {
		at(t, in(api.OpPop, 0, 0), is(number, x), is(number))
		at(t, in(api.OpDup, 0, 0), is(number, x), is(number, x, x))
		for _, y := range universe() {
			at(t, in(api.OpSwap, 0, 0), is(number, x, y), is(number, y, x))
		}
	}
}

func TestTooMany(t *testing.T) {
	for _, i := range everyone() {
		m := home(i)
		wants, puts := told(m, m.Funcs[1], i)
		taken := just(wants)
		then := filled(puts, taken)
		for _, x := range is(number, none, any0) {
			for n := range api.MaxStack + 6 {
				below := many(n, x)
				if n+len(then) <= api.MaxStack {
					at(t, i, slices.Concat(below, taken), slices.Concat(below, then))
				} else {
					fails(t, i, slices.Concat(below, taken), api.ErrType)
				}
			}
		}
	}
}

func TestStackThatIsTooLongAlready(t *testing.T) {
	at(t, in(api.OpPop, 0, 0), many(9, number), many(8, number))
	fails(t, in(api.OpPop, 0, 0), many(10, number), api.ErrType)
	at(t, in(api.OpStore, 0, 0), append(many(8, none), list, number, number), many(8, none))
	fails(t, in(api.OpStore, 0, 0), append(many(9, none), list, number, number), api.ErrType)
	at(t, in(api.OpNew, 2, 0), append(many(7, text), text, list, any0, han(1), rec(0), number), append(many(7, text), rec(2)))
	fails(t, in(api.OpNew, 2, 0), append(many(8, text), text, list, any0, han(1), rec(0), number), api.ErrType)
	at(t, in(api.OpRet, 0, 0), append(many(8, number), rec(2)), many(8, number))
	fails(t, in(api.OpRet, 0, 0), append(many(9, number), rec(2)), api.ErrType)
	fails(t, in(api.OpJump, 0, 0), many(9, number), api.ErrType)
	fails(t, in(api.OpSwap, 0, 0), many(9, number), api.ErrType)
	fails(t, in(api.OpTwist, 0, 0), many(9, number), api.ErrType)
	fails(t, in(api.OpDup, 0, 0), many(8, number), api.ErrType)
	for _, i := range everyone() {
		fails(t, i, many(1000, null), api.ErrType)
		fails(t, i, many(1000, number), api.ErrType)
	}
}

func TestLastInstruction(t *testing.T) {
	for _, n := range []int{1, 2, 3, 17, api.MaxCode - 1, api.MaxCode} {
		for _, i := range everyone() {
			if i.Op == api.OpJump || i.Op == api.OpZero {
				i.A = n - 1 // itself
			}
			m := home(in(api.OpRet, 0, 0))
			m.Funcs[1].Code = many(n, in(api.OpNull, 0, 0))
			m.Funcs[1].Code[n-1] = i
			wants, puts := told(m, m.Funcs[1], i)
			taken := just(wants)
			switch i.Op {
			case api.OpRet:
				comes(t, m, 1, n-1, taken, nil, nil, api.OK)
			case api.OpJump:
				comes(t, m, 1, n-1, taken, nil, []int{n - 1}, api.OK)
			default:
				comes(t, m, 1, n-1, taken, nil, nil, api.ErrArg)
			}
			if n > 1 { // the one ahead of it goes on at the last one
				m.Funcs[1].Code[n-2], m.Funcs[1].Code[n-1] = i, in(api.OpRet, 0, 0)
				comes(t, m, 1, n-2, taken, filled(puts, taken), on(i, n-2), api.OK)
			}
		}
	}
}

func TestWhereItGoesOn(t *testing.T) {
	n := 6
	for pc := range n {
		for a := range n {
			m := home(in(api.OpRet, 0, 0))
			m.Funcs[1].Code = many(n, in(api.OpNull, 0, 0))
			m.Funcs[1].Code[pc] = in(api.OpJump, a, 0) // itself, the first and the last one among them
			comes(t, m, 1, pc, is(text), is(text), []int{a}, api.OK)
			m.Funcs[1].Code[pc] = in(api.OpZero, a, 0) // the next one twice, if it is A
			if pc < n-1 {
				comes(t, m, 1, pc, is(text, number), is(text), []int{pc + 1, a}, api.OK)
			} else {
				comes(t, m, 1, pc, is(text, number), nil, nil, api.ErrArg)
			}
			m.Funcs[1].Code[pc] = in(api.OpRet, 0, 0)
			comes(t, m, 1, pc, is(text, rec(2)), is(text), nil, api.OK)
		}
	}
}

func TestNoSuchFunctionOrInstruction(t *testing.T) {
	m := home(in(api.OpJump, 0, 0))
	for f, function := range m.Funcs {
		for pc := range function.Code {
			if _, _, e := Flow(m, f, pc, is(number, text, any0, rec(2))); e == api.ErrArg {
				t.Errorf("instruction %d of function %d: %d", pc, f, e)
			}
		}
		for _, pc := range []int{-1, -2, math.MinInt, len(function.Code), len(function.Code) + 1, api.MaxCode, math.MaxInt} {
			comes(t, m, f, pc, nil, nil, nil, api.ErrArg)
			comes(t, m, f, pc, is(rec(2)), nil, nil, api.ErrArg)
			comes(t, m, f, pc, many(20, number), nil, nil, api.ErrArg)
		}
	}
	for _, f := range []int{-1, -4, math.MinInt, len(m.Funcs), len(m.Funcs) + 1, api.MaxFuncs, math.MaxInt} {
		for _, pc := range []int{-1, 0, 1, place, math.MinInt, math.MaxInt} {
			comes(t, m, f, pc, is(number), nil, nil, api.ErrArg)
			comes(t, m, f, pc, nil, nil, nil, api.ErrArg)
		}
	}
}

// torn: ways of making of home a module that does not fit, or does not hang together.
func torn() []func(m *api.Module) {
	return []func(m *api.Module){
		func(m *api.Module) { m.Funcs = nil },
		func(m *api.Module) { m.Funcs = append(m.Funcs, many(5, m.Funcs[0])...) },
		func(m *api.Module) { m.Recs = append(m.Recs, many(7, number)) },
		func(m *api.Module) { m.Recs = append(m.Recs, is(null)) },
		func(m *api.Module) { m.Imports = append(m.Imports, api.Import{}) },
		func(m *api.Module) { m.Imports = append(m.Imports, api.Import{Ret: text}) },
		func(m *api.Module) { m.Imports = append(m.Imports, api.Import{Args: is(any0), Ret: number}) },
		func(m *api.Module) { m.Ints = many(17, uint64(0)) },
		func(m *api.Module) { m.Texts = append(m.Texts, string(make([]byte, 33))) },
		func(m *api.Module) { m.Funcs[3].Code[1] = in(api.Ops, 0, 0) },
		func(m *api.Module) { m.Funcs[3].Code[1] = in(-1, 0, 0) },
		func(m *api.Module) { m.Funcs[3].Code[1] = in(api.OpAdd, 1, 0) },
		func(m *api.Module) { m.Funcs[3].Code[1] = in(api.OpGet, 2, 0) },
		func(m *api.Module) { m.Funcs[3].Code[1] = in(api.OpJump, 2, 0) },
		func(m *api.Module) { m.Funcs[3].Code[1] = in(api.OpCall, 4, 0) },
		func(m *api.Module) { m.Funcs[3].Code[1] = in(api.OpField, 1, 0) },
		func(m *api.Module) { m.Funcs[3].Locals = is(han(0)) },
		func(m *api.Module) { m.Funcs[1].Code[4] = in(api.OpInt, 6, 0) },
		func(m *api.Module) { m.Funcs[1].Code[place] = in(api.OpHost, 255, 0) },
		func(m *api.Module) { m.Funcs[1].Code[place] = in(api.OpPut, 3, 0) },
		func(m *api.Module) { m.Funcs[1].Code[place] = in(99, -1, math.MaxInt) },
		func(m *api.Module) { m.Funcs[1].Code = many(65, in(api.OpNull, 0, 0)) },
		func(m *api.Module) { m.Funcs[2].Ret = none },
	}
}

func TestModulesThatDoNotHangTogether(t *testing.T) {
	stacks := [][]api.Type{nil, is(number), is(none, none), many(9, text), is(number, number, rec(2))}
	for _, tear := range torn() {
		for _, i := range []api.Instr{in(api.OpNull, 0, 0), in(api.OpPop, 0, 0), in(api.OpAdd, 0, 0), in(api.OpRet, 0, 0), in(api.OpJump, 0, 0)} {
			for _, stack := range stacks { // among them those on which it would have been ErrType
				m := home(i)
				tear(&m)
				comes(t, m, 1, place, stack, nil, nil, api.ErrArg)
				comes(t, m, 0, 0, stack, nil, nil, api.ErrArg) // nothing is wrong with that function
				comes(t, m, -1, 900, stack, nil, nil, api.ErrArg)
			}
		}
	}
	for _, m := range []api.Module{{}, {Funcs: []api.Func{}}, {Funcs: []api.Func{{}}}, {Funcs: []api.Func{{Ret: number}}}} {
		comes(t, m, 0, 0, nil, nil, nil, api.ErrArg)
		comes(t, m, 0, 0, is(number), nil, nil, api.ErrArg)
	}
}

func TestWhichErrorFirst(t *testing.T) {
	for _, i := range everyone() {
		m := home(in(api.OpRet, 0, 0))
		if i.Op == api.OpJump || i.Op == api.OpZero {
			i.A = 0
		}
		m.Funcs[1].Code = []api.Instr{in(api.OpNull, 0, 0), i} // behind the last one, too, of all but two
		wants, puts := told(m, m.Funcs[1], i)
		taken := just(wants)
		if len(wants) > 0 {
			comes(t, m, 1, 1, taken[1:], nil, nil, api.ErrType)
			comes(t, m, 1, 1, nil, nil, nil, api.ErrType)
		}
		for k, want := range wants {
			for _, x := range is(number, none, any0, api.Type{}) {
				if !fits(x, want) {
					wrong := slices.Clone(taken)
					wrong[k] = x
					comes(t, m, 1, 1, wrong, nil, nil, api.ErrType)
					comes(t, m, 1, 1, slices.Concat(many(9, number), wrong), nil, nil, api.ErrType) // too many as well
				}
			}
		}
		comes(t, m, 1, 1, slices.Concat(many(9-len(puts), text), taken), nil, nil, api.ErrType)
		if i.Op != api.OpRet && i.Op != api.OpJump {
			comes(t, m, 1, 1, slices.Concat(many(8-len(puts), text), taken), nil, nil, api.ErrArg)
		}
		m.Texts = many(17, "") // what is wrong with the module comes ahead of all that
		comes(t, m, 1, 1, nil, nil, nil, api.ErrArg)
		comes(t, m, 1, 1, slices.Concat(many(9, text), taken), nil, nil, api.ErrArg)
	}
}

func TestCallsAndImportsOfSoManyArguments(t *testing.T) {
	all := is(number, han(2), han(1), number)
	for n := range api.MaxArgs + 1 {
		for _, ret := range is(number, han(0)) {
			m := home(in(api.OpCall, 2, 0))
			m.Funcs[2].Args, m.Funcs[2].Ret = all[:n], ret
			m.Imports[3] = api.Import{Args: all[:n], Ret: ret}
			for _, i := range []api.Instr{in(api.OpCall, 2, 0), in(api.OpHost, 3, 0)} {
				m.Funcs[1].Code[place] = i
				comes(t, m, 1, place, all[:n], is(ret), []int{place + 1}, api.OK)
				comes(t, m, 1, place, slices.Concat(is(text, none), all[:n]), is(text, none, ret), []int{place + 1}, api.OK)
				comes(t, m, 1, place, slices.Concat(many(7, list), all[:n]), append(many(7, list), ret), []int{place + 1}, api.OK)
				comes(t, m, 1, place, slices.Concat(many(8, list), all[:n]), nil, nil, api.ErrType)
				if n > 0 {
					comes(t, m, 1, place, all[:n-1], nil, nil, api.ErrType)
					comes(t, m, 1, place, slices.Concat(all[:n], is(none)), nil, nil, api.ErrType)
				}
			}
		}
	}
}

func TestAFunctionThatCallsItself(t *testing.T) {
	at(t, in(api.OpCall, 1, 0), is(number, han(0), null, null), is(number, rec(2)))
	m := home(in(api.OpRet, 0, 0))
	m.Funcs[0].Code = []api.Instr{in(api.OpCall, 0, 0), in(api.OpJump, 0, 0)}
	comes(t, m, 0, 0, nil, is(number), []int{1}, api.OK)
}

func TestRecordsOfSoManyFields(t *testing.T) {
	all := is(han(3), any0, number, list, rec(1), text)
	for n := range api.MaxFields + 1 {
		m := home(in(api.OpNew, 1, 0))
		m.Recs[1] = all[:n]
		comes(t, m, 1, place, all[:n], is(rec(1)), []int{place + 1}, api.OK)
		comes(t, m, 1, place, slices.Concat(many(7, text), all[:n]), append(many(7, text), rec(1)), []int{place + 1}, api.OK)
		comes(t, m, 1, place, slices.Concat(many(8, text), all[:n]), nil, nil, api.ErrType)
		if n > 0 {
			comes(t, m, 1, place, all[1:n], nil, nil, api.ErrType)
		}
		for b := range n {
			m.Funcs[1].Code[place] = in(api.OpField, 1, b)
			comes(t, m, 1, place, is(rec(1)), all[b:b+1], []int{place + 1}, api.OK)
			comes(t, m, 1, place, is(rec(0)), nil, nil, api.ErrType)
			m.Funcs[1].Code[place] = in(api.OpPut, 1, b)
			comes(t, m, 1, place, is(rec(1), all[b]), nil, []int{place + 1}, api.OK)
			comes(t, m, 1, place, is(rec(2), all[b]), nil, nil, api.ErrType)
		}
	}
}

func TestTheFunctionsOwnResult(t *testing.T) {
	for _, ret := range is(number, text, list, any0, rec(0), rec(2), han(0), han(3)) {
		m := home(in(api.OpRet, 0, 0))
		m.Funcs[1].Ret = ret
		for _, x := range universe() {
			if fits(x, ret) {
				comes(t, m, 1, place, is(none, x), is(none), nil, api.OK)
			} else {
				comes(t, m, 1, place, is(ret, x), nil, nil, api.ErrType)
			}
		}
	}
}
