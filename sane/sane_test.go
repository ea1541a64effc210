package sane

import (
	"math"
	"math/rand/v2"
	"testing"

	"chrysalis/api"
	"chrysalis/module"
)

func TestOneLocalTooFar(t *testing.T) { // the chapter's example
	comes(t, tiny(in(api.OpGet, 0, 0)), api.ErrArg)
	m := tiny(in(api.OpGet, 0, 0))
	m.Funcs[0].Locals = []api.Type{number}
	comes(t, m, api.OK)
}

func TestWhatHangsTogether(t *testing.T) {
	comes(t, tiny(), api.OK)
	comes(t, rich(), api.OK)
	if !Main(tiny()) || !Main(rich()) {
		t.Error("Main")
	}
}

func TestInstructionsThatNameNothing(t *testing.T) {
	for op := range api.Ops {
		if names(api.Module{}, api.Func{}, op) < 0 {
			comes(t, tiny(in(op, 0, 0)), api.OK)
		}
	}
}

// placed: rich, with i in the place of an instruction of a function's.
func placed(f, pc int, i api.Instr) api.Module {
	m := rich()
	m.Funcs[f].Code[pc] = i
	return m
}

func TestEachThatIsNamed(t *testing.T) {
	for f, function := range rich().Funcs {
		last := len(function.Code) - 1
		for _, pc := range []int{0, last / 2, last} {
			for op := range api.Ops {
				if op == api.OpField || op == api.OpPut {
					continue // of these the next test tells
				}
				n := names(rich(), function, op)
				for a := range 256 {
					if n >= 0 {
						comes(t, placed(f, pc, in(op, a, 0)), orArg(a < n))
					}
				}
			}
		}
	}
}

func TestEachFieldThatIsNamed(t *testing.T) {
	fields := []int{2, 0, 5} // of each of rich's records
	for f, function := range rich().Funcs {
		last := len(function.Code) - 1
		for _, op := range []int{api.OpField, api.OpPut} {
			for _, a := range []int{0, 1, 2, 3, 4, 5, 7, 8, 127, 128, 254, 255} {
				for _, b := range []int{0, 1, 2, 3, 4, 5, 6, 7, 127, 128, 254, 255} {
					there := a < len(fields) && b < fields[a]
					comes(t, placed(f, 0, in(op, a, b)), orArg(there))
					comes(t, placed(f, last, in(op, a, b)), orArg(there))
				}
			}
		}
	}
}

// thing: something that an instruction names, and a module with n of it that has the instruction.
type thing struct {
	name        string
	least, most int
	ops         []int
	of          func(n int, i api.Instr) api.Module
}

// things: all of them but locals, and instructions.
func things() []thing {
	with := func(put func(m *api.Module, n int)) func(int, api.Instr) api.Module {
		return func(n int, i api.Instr) api.Module {
			m := tiny(i)
			put(&m, n)
			return m
		}
	}
	return []thing{
		{"numbers", 0, api.MaxConsts, []int{api.OpInt}, with(func(m *api.Module, n int) { m.Ints = many(n, uint64(9)) })},
		{"texts", 0, api.MaxConsts, []int{api.OpText}, with(func(m *api.Module, n int) { m.Texts = many(n, "t") })},
		{"functions", 1, api.MaxFuncs, []int{api.OpCall}, with(func(m *api.Module, n int) { m.Funcs = append(m.Funcs, many(n-1, tiny().Funcs[0])...) })},
		{"imports", 0, api.MaxImports, []int{api.OpHost}, with(func(m *api.Module, n int) { m.Imports = many(n, api.Import{Ret: number}) })},
		{"records", 0, api.MaxRecs, []int{api.OpNew}, with(func(m *api.Module, n int) { m.Recs = many(n, []api.Type(nil)) })},
		{"records with fields", 0, api.MaxRecs, []int{api.OpNew, api.OpField, api.OpPut}, with(func(m *api.Module, n int) { m.Recs = many(n, []api.Type{number}) })},
	}
}

func TestLastOneAndOneBehindIt(t *testing.T) {
	for _, x := range things() {
		for n := x.least; n <= x.most; n++ {
			for _, op := range x.ops {
				for a := range x.most + 2 {
					m := x.of(n, in(op, a, 0))
					comes(t, m, orArg(a < n))
					m.Funcs = append([]api.Func{tiny().Funcs[0]}, m.Funcs...) // the same in a later function: no other thing, but one function more
					more := n
					if x.name == "functions" {
						more++
					}
					if len(m.Funcs) <= api.MaxFuncs {
						comes(t, m, orArg(a < more))
					}
				}
			}
		}
	}
}

func TestLastFieldAndOneBehindIt(t *testing.T) {
	for _, op := range []int{api.OpField, api.OpPut} {
		for n := range api.MaxFields + 1 {
			for at := range 3 {
				m := tiny()
				m.Recs = [][]api.Type{{number, text, list}, {number, text, list}, {number, text, list}}
				m.Recs[at] = many(n, han(1))
				m.Funcs = many(2, m.Funcs[0])
				for f := range 2 {
					for b := range api.MaxFields + 2 {
						m.Funcs[f].Code = []api.Instr{in(op, at, b)}
						comes(t, m, orArg(b < n))
					}
					m.Funcs[f].Code = []api.Instr{in(op, (at+1)%3, 2)} // of another record
					comes(t, m, api.OK)
					m.Funcs[f].Code = []api.Instr{in(op, (at+1)%3, 3)}
					comes(t, m, api.ErrArg)
					m.Funcs[f].Code = []api.Instr{in(api.OpRet, 0, 0)}
				}
			}
		}
	}
}

func TestArgumentsComeFirst(t *testing.T) {
	for args := range api.MaxArgs + 1 {
		for locals := range api.MaxLocals - args + 1 {
			for f := range 3 {
				m := api.Module{Funcs: many(3, api.Func{Args: many(2, number), Ret: number, Locals: many(1, text), Code: tiny().Funcs[0].Code})}
				for a := range api.MaxLocals + 2 {
					for _, op := range []int{api.OpGet, api.OpSet} {
						m.Funcs[f] = api.Func{Args: many(args, han(2)), Ret: number, Locals: many(locals, number), Code: []api.Instr{in(api.OpRet, 0, 0), in(op, a, 0)}}
						comes(t, m, orArg(a < args+locals))
					}
				}
			}
		}
	}
}

func TestInstructionOfItsOwnFunction(t *testing.T) {
	for _, n := range []int{1, 2, 3, 20, api.MaxCode - 1, api.MaxCode} {
		for f := range 3 {
			for _, op := range []int{api.OpJump, api.OpZero} {
				for _, pc := range []int{0, n / 2, n - 1} {
					for a := range api.MaxCode + 2 {
						m := api.Module{Funcs: many(3, api.Func{Ret: number, Code: many(10, in(api.OpRet, 0, 0))})}
						m.Funcs[f].Code = many(n, in(api.OpAdd, 0, 0))
						m.Funcs[f].Code[pc] = in(op, a, 0)
						comes(t, m, orArg(a < n))
					}
				}
			}
		}
	}
}

func TestNilAndEmptyLists(t *testing.T) {
	empty := api.Module{
		Recs: [][]api.Type{}, Imports: []api.Import{}, Ints: []uint64{}, Texts: []string{},
		Funcs: []api.Func{{Args: []api.Type{}, Ret: number, Locals: []api.Type{}, Code: tiny().Funcs[0].Code}},
	}
	comes(t, empty, api.OK)
	if !Main(empty) {
		t.Error("Main of empty lists")
	}
	for op := range api.Ops {
		if n := names(empty, empty.Funcs[0], op); n == 0 {
			empty.Funcs[0].Code = []api.Instr{in(op, 0, 0)}
			comes(t, empty, api.ErrArg)
			comes(t, tiny(in(op, 0, 0)), api.ErrArg)
		}
	}
	for _, fields := range [][]api.Type{nil, {}} {
		m := tiny(in(api.OpField, 0, 0))
		m.Recs = [][]api.Type{fields}
		comes(t, m, api.ErrArg)
		m.Funcs[0].Code = []api.Instr{in(api.OpNew, 0, 0)}
		comes(t, m, api.OK)
	}
	for _, args := range [][]api.Type{nil, {}} {
		m := tiny(in(api.OpHost, 0, 0))
		m.Imports = []api.Import{{Args: args, Ret: number}}
		comes(t, m, api.OK)
	}
}

func TestLocalsThatAreHandles(t *testing.T) {
	for f := range rich().Funcs {
		for _, x := range goodTypes(3) {
			for n := 1; n <= api.MaxLocals; n++ {
				for at := range n {
					m := rich()
					m.Funcs[f] = api.Func{Ret: number, Locals: many(n, number), Code: tiny().Funcs[0].Code}
					m.Funcs[f].Locals[at] = x
					comes(t, m, orArg(x.Kind != api.Han))
				}
			}
		}
	}
}

func TestHandlesThatMayBe(t *testing.T) {
	for f := range rich().Funcs {
		for n := range api.MaxKinds {
			m := rich()
			m.Funcs[f].Args, m.Funcs[f].Locals = many(4, han(n)), many(4, number)
			comes(t, m, api.OK)
			m = rich()
			m.Funcs[f].Ret = han(n)
			comes(t, m, api.OK)
			m = rich()
			m.Recs[1] = many(api.MaxFields, han(n))
			comes(t, m, api.OK)
		}
	}
}

func TestTypesOfImports(t *testing.T) {
	for k := range api.MaxImports {
		for _, x := range goodTypes(3) {
			m := rich()
			m.Imports = many(api.MaxImports, api.Import{Ret: number})
			m.Imports[k].Ret = x
			e := orArg(x.Kind == api.Int || x.Kind == api.Han)
			comes(t, m, e)
			for n := 1; n <= api.MaxArgs; n++ {
				for at := range n {
					args := many(n, han(3))
					args[at] = x
					m.Imports[k] = api.Import{Args: args, Ret: number}
					comes(t, m, e)
				}
			}
		}
	}
}

func TestOtherTypesMayBeOfFunctions(t *testing.T) {
	for f := range rich().Funcs {
		for _, x := range goodTypes(3) {
			m := rich()
			m.Funcs[f].Args, m.Funcs[f].Locals, m.Funcs[f].Ret = many(4, x), many(4, number), x
			m.Recs[1] = many(4, x)
			comes(t, m, api.OK)
		}
	}
}

func TestWhatCodeDoesIsNotAsked(t *testing.T) { // that is for the layers above
	comes(t, tiny(in(api.OpAdd, 0, 0)), api.OK)
	comes(t, tiny(in(api.OpRet, 0, 0), in(api.OpPop, 0, 0)), api.OK)
	comes(t, tiny(in(api.OpRet, 0, 0), in(api.OpInt, 0, 0)), api.ErrArg) // come to or not
}

// unfit: ways of making a module one that does not fit.
func unfit() []func(m *api.Module) {
	return []func(m *api.Module){
		func(m *api.Module) { m.Funcs = nil },
		func(m *api.Module) { m.Funcs = []api.Func{} },
		func(m *api.Module) { m.Funcs = many(9, tiny().Funcs[0]) },
		func(m *api.Module) { m.Recs = many(9, []api.Type{number}) },
		func(m *api.Module) { m.Recs = append(m.Recs, many(7, number)) },
		func(m *api.Module) { m.Recs = append(m.Recs, []api.Type{{Kind: api.Null}}) },
		func(m *api.Module) { m.Imports = many(9, api.Import{Ret: number}) },
		func(m *api.Module) {
			m.Imports = append(m.Imports[:1:1], api.Import{Args: many(5, number), Ret: number})
		},
		func(m *api.Module) { m.Imports = append(m.Imports[:1:1], api.Import{}) },
		func(m *api.Module) { m.Imports = append(m.Imports[:1:1], api.Import{Ret: han(api.MaxKinds)}) },
		func(m *api.Module) {
			m.Imports = append(m.Imports[:1:1], api.Import{Args: []api.Type{{Kind: api.Int, N: 1}}, Ret: number})
		},
		func(m *api.Module) { m.Ints = many(17, uint64(0)) },
		func(m *api.Module) { m.Texts = many(17, "") },
		func(m *api.Module) { m.Texts = append(m.Texts, string(make([]byte, 33))) },
		func(m *api.Module) { m.Funcs[1].Ret = rec(3) },
		func(m *api.Module) { m.Funcs[1].Ret = api.Type{Kind: api.None} },
		func(m *api.Module) { m.Funcs[1].Args = many(5, number) },
		func(m *api.Module) { m.Funcs[1].Locals = many(6, number) },
		func(m *api.Module) { m.Funcs[1].Locals = []api.Type{han(-1)} },
		func(m *api.Module) { m.Funcs[1].Code = nil },
		func(m *api.Module) { m.Funcs[1].Code = many(65, in(api.OpRet, 0, 0)) },
		func(m *api.Module) { m.Funcs[1].Code[9] = in(api.Ops, 0, 0) },
		func(m *api.Module) { m.Funcs[1].Code[9] = in(-1, 0, 0) },
		func(m *api.Module) { m.Funcs[1].Code[9] = in(api.OpAdd, 1, 0) },
		func(m *api.Module) { m.Funcs[1].Code[9] = in(api.OpInt, 0, 1) },
		func(m *api.Module) { m.Funcs[1].Code[9] = in(api.OpGet, -1, 0) },
		func(m *api.Module) { m.Funcs[1].Code[9] = in(api.OpGet, 256, 0) },
		func(m *api.Module) { m.Funcs[1].Code[9] = in(api.OpJump, math.MaxInt, 0) },
		func(m *api.Module) { m.Funcs[1].Code[9] = in(api.OpField, math.MinInt, 0) },
		func(m *api.Module) { m.Funcs[1].Code[9] = in(api.OpPut, 0, 256) },
		func(m *api.Module) { m.Funcs[1].Code[9] = in(api.OpPut, 0, -1) },
	}
}

// apart: ways of making a module that fits one that does not hang together.
func apart() []func(m *api.Module) {
	return []func(m *api.Module){
		func(m *api.Module) { m.Funcs[0].Code[0] = in(api.OpInt, 6, 0) },
		func(m *api.Module) { m.Funcs[0].Code[52] = in(api.OpText, 7, 0) },
		func(m *api.Module) { m.Funcs[0].Code[1] = in(api.OpGet, 8, 0) },
		func(m *api.Module) { m.Funcs[0].Code[2] = in(api.OpZero, 53, 0) },
		func(m *api.Module) { m.Funcs[0].Code[3] = in(api.OpCall, 255, 0) },
		func(m *api.Module) { m.Funcs[0].Code[4] = in(api.OpHost, 255, 0) },
		func(m *api.Module) { m.Funcs[0].Code[5] = in(api.OpNew, 255, 0) },
		func(m *api.Module) { m.Funcs[0].Code[6] = in(api.OpField, 255, 255) },
		func(m *api.Module) { m.Funcs[0].Code[7] = in(api.OpPut, 0, 255) },
		func(m *api.Module) { m.Funcs[0].Locals[3] = han(1) },
		func(m *api.Module) { m.Imports[0].Args = []api.Type{text} },
		func(m *api.Module) { m.Imports[0].Ret = any0 },
	}
}

func TestWhatDoesNotFit(t *testing.T) {
	for k, spoil := range unfit() {
		m := rich()
		spoil(&m)
		if _, e := module.Encode(m); e != api.ErrForm {
			t.Fatalf("way %d: Encode: %d", k, e)
		}
		comes(t, m, api.ErrForm)
	}
	for _, tear := range apart() {
		m := rich()
		tear(&m)
		comes(t, m, api.ErrArg)
	}
}

func TestWhatDoesNotFitIsToldFirst(t *testing.T) {
	for _, spoil := range unfit() {
		for _, tear := range apart() {
			m := rich()
			tear(&m)
			spoil(&m)
			comes(t, m, api.ErrForm)
		}
	}
}

func TestMainOfFunction0(t *testing.T) {
	for _, x := range goodTypes(3) {
		m := rich()
		m.Funcs[0].Ret = x
		comes(t, m, api.OK)
		if Main(m) != (x.Kind == api.Int) {
			t.Errorf("Main of a result %+v", x)
		}
		for n := 1; n <= api.MaxArgs; n++ {
			m = rich()
			m.Funcs[0].Args, m.Funcs[0].Locals = many(n, x), many(8-n, number)
			comes(t, m, api.OK)
			if Main(m) {
				t.Errorf("Main of %d arguments %+v", n, x)
			}
		}
	}
}

func TestMainAsksForFunction0Alone(t *testing.T) {
	m := rich()
	if m.Funcs[1].Ret == number || len(m.Funcs[1].Args) == 0 || !Main(m) {
		t.Error("Main hangs on later functions")
	}
	m.Funcs[0], m.Funcs[1] = m.Funcs[1], tiny().Funcs[0]
	comes(t, m, api.OK)
	if Main(m) {
		t.Error("Main of a later function")
	}
}

func TestMainBesideAnError(t *testing.T) {
	if Main(api.Module{}) || Main(api.Module{Funcs: []api.Func{}}) {
		t.Error("Main without a function")
	}
	comes(t, api.Module{}, api.ErrForm)
	for _, spoil := range append(unfit(), apart()...) {
		m := rich()
		spoil(&m)
		if Main(m) {
			t.Errorf("Main(%+v)", m)
		}
	}
	m := tiny()
	m.Imports = []api.Import{{Ret: text}} // nothing wrong with function 0
	if Main(m) {
		t.Error("Main beside an import that may not be")
	}
}

func TestWhatIsHandedInStays(t *testing.T) {
	for _, change := range append(append(unfit(), apart()...), func(m *api.Module) {}) {
		m := rich()
		change(&m)
		m = again(m, 3)
		before := dump(m)
		e, begins := Check(m), Main(m)
		for range 3 {
			if Check(m) != e || Main(m) != begins {
				t.Errorf("another answer the second time: %+v", m)
			}
		}
		if dump(m) != before {
			t.Errorf("changed: %+v", m)
		}
	}
}

func TestSpareRoomIsNotAsked(t *testing.T) {
	comes(t, again(rich(), 5), api.OK)
	comes(t, again(tiny(), 5), api.OK)
	if !Main(again(rich(), 5)) {
		t.Error("Main hangs on spare room")
	}
	for _, tear := range apart() {
		m := rich()
		tear(&m)
		comes(t, again(m, 5), api.ErrArg)
	}
	for op := range api.Ops {
		if names(tiny(), tiny().Funcs[0], op) >= 0 {
			comes(t, again(tiny(in(op, 1, 0)), 5), api.ErrArg) // at most one of anything is there
		}
	}
}

// shaken: rich, with some of it changed by r.
func shaken(r *rand.Rand) api.Module {
	m := rich()
	types := append(goodTypes(3), number, number, api.Type{Kind: api.Null}, rec(3))
	some := func() api.Type { return types[r.IntN(len(types))] }
	for range r.IntN(4) {
		f := &m.Funcs[r.IntN(len(m.Funcs))]
		switch r.IntN(8) {
		case 0:
			m.Ints = m.Ints[:r.IntN(len(m.Ints)+1)]
		case 1:
			m.Texts = m.Texts[:r.IntN(len(m.Texts)+1)]
		case 2:
			m.Imports = m.Imports[:r.IntN(len(m.Imports)+1)]
		case 3:
			m.Imports = append(m.Imports, api.Import{Args: []api.Type{number, some()}, Ret: some()})
		case 4:
			f.Args = append(f.Args, some())
		case 5:
			f.Locals = append(f.Locals[:len(f.Locals)/2:len(f.Locals)/2], some())
		default:
			f.Code[r.IntN(len(f.Code))] = in(r.IntN(api.Ops), r.IntN(8), r.IntN(2)*r.IntN(6))
		}
	}
	return m
}

func TestShaken(t *testing.T) {
	r := rand.New(rand.NewPCG(7, 22))
	got := map[api.Errno]int{}
	for range 50000 {
		m := shaken(r)
		e := wanted(m)
		comes(t, m, e)
		got[e]++
		begins := e == api.OK && len(m.Funcs[0].Args) == 0 && m.Funcs[0].Ret == number
		if Main(m) != begins {
			t.Fatalf("Main(%+v): %v", m, !begins)
		}
	}
	if len(got) != 3 || got[api.OK] < 1000 || got[api.ErrArg] < 1000 || got[api.ErrForm] < 1000 {
		t.Errorf("too little of one answer, the test tells little: %v", got)
	}
}
