package flow

import (
	"math/rand/v2"
	"slices"
	"testing"

	"chrysalis/api"
)

// What comes does of stacks, this does of modules: what is handed in is not changed, its spare room included.
func TestModulesThatAreHandedInStay(t *testing.T) {
	for _, i := range everyone() {
		m := again(home(i), 3)
		before := dump(m)
		wants, puts := told(m, m.Funcs[1], i)
		taken := just(wants)
		comes(t, m, 1, place, taken, filled(puts, taken), on(i, place), api.OK) // writes over what it was answered
		comes(t, m, 1, place, many(20, none), nil, nil, api.ErrType)
		comes(t, m, 1, 99, taken, nil, nil, api.ErrArg)
		if dump(m) != before {
			t.Errorf("%+v has changed the module", i)
		}
	}
	for _, tear := range torn() {
		m := home(in(api.OpAdd, 0, 0))
		tear(&m)
		m = again(m, 3)
		before := dump(m)
		comes(t, m, 1, place, is(number, number), nil, nil, api.ErrArg)
		if dump(m) != before {
			t.Errorf("changed: %+v", m)
		}
	}
}

func TestSpareRoomIsNotAsked(t *testing.T) {
	m := again(home(in(api.OpNull, 0, 0)), 5)
	for f, n := range []int{1, 5, 1, 2} {
		comes(t, m, f, n, nil, nil, nil, api.ErrArg) // an OpRet stands behind each last one
	}
	comes(t, m, 4, 0, nil, nil, nil, api.ErrArg)
	m = again(home(in(api.OpRet, 0, 0)), 5)
	m.Funcs[1].Code[4] = in(api.OpNull, 0, 0)
	comes(t, m, 1, 4, nil, nil, nil, api.ErrArg)
	if _, _, e := Flow(m, 1, place, is(rec(2))[:0]); e != api.ErrType { // what it wants stands in the room behind
		t.Errorf("spare room of the stack was taken: %d", e)
	}
}

func TestAnswersAreApart(t *testing.T) {
	for _, i := range everyone() {
		m := home(i)
		wants, puts := told(m, m.Funcs[1], i)
		stack := slices.Concat(is(list), just(wants))
		then := slices.Concat(is(list), filled(puts, just(wants)))
		first, where, _ := Flow(m, 1, place, stack)
		second, there, _ := Flow(m, 1, place, stack)
		scribble(first, odd)
		scribble(where, 77)
		if !slices.Equal(second, then) || !slices.Equal(there, on(i, place)) {
			t.Errorf("%+v: two answers share memory: %v, %v", i, second, there)
		}
		scribble(stack, odd) // what was handed in is changed later
		if !slices.Equal(second, then) {
			t.Errorf("%+v: the answer is the stack that was handed in: %v", i, second)
		}
	}
}

func TestNilAndEmptyStacks(t *testing.T) {
	for _, i := range everyone() {
		after, next, e := Flow(home(i), 1, place, nil)
		after1, next1, e1 := Flow(home(i), 1, place, is())
		after2, next2, e2 := wanted(home(i), 1, place, nil)
		if e != e1 || e != e2 || !slices.Equal(after, after1) || !slices.Equal(after, after2) || !slices.Equal(next, next1) || !slices.Equal(next, next2) {
			t.Errorf("%+v: %v %v %d, %v %v %d", i, after, next, e, after1, next1, e1)
		}
	}
}

// shakenInstr: an instruction that may stand in most functions of home.
func shakenInstr(r *rand.Rand) api.Instr {
	switch op := r.IntN(api.Ops); op {
	case api.OpField, api.OpPut:
		return in(op, 2*r.IntN(2), r.IntN(3))
	case api.OpInt, api.OpText, api.OpGet, api.OpSet, api.OpCall, api.OpHost, api.OpNew:
		return in(op, r.IntN(2), 0)
	default:
		return in(op, 0, 0)
	}
}

// shaken: home, with some of it changed by r.
func shaken(r *rand.Rand) api.Module {
	m := home(in(api.OpRet, 0, 0))
	good := is(number, text, list, any0, rec(0), rec(1), rec(2), han(0), han(3))
	some := func() api.Type { return good[r.IntN(len(good))] }
	for f := range m.Funcs {
		for pc := range m.Funcs[f].Code {
			m.Funcs[f].Code[pc] = shakenInstr(r)
		}
		m.Funcs[f].Ret = some()
		m.Funcs[f].Locals = append(m.Funcs[f].Locals, number)
		if len(m.Funcs[f].Args) > 0 {
			m.Funcs[f].Args[0] = some()
		}
	}
	m.Recs[1] = append(m.Recs[1], some())
	m.Recs[0][1] = some()
	if r.IntN(20) == 0 {
		m.Funcs[r.IntN(4)].Locals[0] = some() // perhaps a handle
	}
	return m
}

// shakenStack: a stack that often is what the instruction wants, and often is not quite.
func shakenStack(r *rand.Rand, m api.Module, f, pc int) []api.Type {
	all := universe()
	var below []api.Type
	for range r.IntN(11) {
		below = append(below, all[r.IntN(len(all))])
	}
	if _, _, e := wanted(m, f, pc, nil); e == api.ErrArg {
		return below
	}
	wants, _ := told(m, m.Funcs[f], m.Funcs[f].Code[pc])
	taken := just(wants)
	for k := range taken {
		if r.IntN(4) == 0 {
			taken[k] = all[r.IntN(len(all))]
		} else if r.IntN(4) == 0 {
			taken[k] = null
		}
	}
	return append(below, taken[r.IntN(len(taken)+1)/2:]...)
}

func TestShaken(t *testing.T) {
	r := rand.New(rand.NewPCG(8, 25))
	got := map[api.Errno]int{}
	for range 30000 {
		m := shaken(r)
		f, pc := r.IntN(4), r.IntN(6)-r.IntN(2)
		stack := shakenStack(r, m, f, pc)
		after, next, e := wanted(m, f, pc, stack)
		comes(t, m, f, pc, stack, after, next, e)
		got[e]++
	}
	if len(got) != 3 || got[api.OK] < 1000 || got[api.ErrArg] < 1000 || got[api.ErrType] < 1000 {
		t.Errorf("too little of one answer, the test tells little: %v", got)
	}
}
