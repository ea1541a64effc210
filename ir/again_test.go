package ir

import (
	"math/rand/v2"
	"slices"
	"testing"

	"chrysalis/api"
	"chrysalis/flow"
	"chrysalis/verify"
)

// one: any of list.
func one[T any](r *rand.Rand, list ...T) T { return list[r.IntN(len(list))] }

// some: an instruction by chance, which may not fit where it is put.
func some(r *rand.Rand) api.Instr {
	switch r.IntN(12) {
	case 0, 1:
		return in(api.OpHost, r.IntN(8))
	case 2:
		return in(one(r, api.OpGet, api.OpSet), r.IntN(4))
	case 3:
		return in(one(r, api.OpNew, api.OpField, api.OpPut, api.OpPut), r.IntN(3), r.IntN(2)*r.IntN(6))
	case 4:
		return in(api.OpCall, r.IntN(3))
	case 5, 6:
		return in(one(r, api.OpInt, api.OpInt, api.OpText, api.OpNull))
	case 7:
		return in(api.OpInts + r.IntN(api.OpLenB-api.OpInts+1))
	}
	return in(r.IntN(api.Ops))
}

// grown: the code of function f of m: one instruction that fits behind the other, with ways to others where as many stand on the stack; at its end it goes on for ever, or has a result.
func grown(r *rand.Rand, m api.Module, f int) []api.Instr {
	m.Funcs = slices.Clone(m.Funcs)
	var out []api.Instr
	var stack []api.Type
	heights := []int{0}
	for want := 3 + r.IntN(24); len(out) < want; {
		i := some(r)
		if i.Op == api.OpJump || i.Op == api.OpZero {
			i.A = len(out) // it is led elsewhere once all stand
		}
		m.Funcs[f].Code = append(slices.Clone(out), i, in(api.OpRet))
		after, next, e := flow.Flow(m, f, len(out), stack)
		if e != api.OK || len(next) == 0 {
			continue
		}
		out, stack, heights = append(out, i), after, append(heights, len(after))
	}
	out = append(out, in(api.OpJump, len(out)))
	for pc, i := range out[:len(out)-1] {
		if i.Op == api.OpJump || i.Op == api.OpZero {
			out[pc].A = pc + 1
			if to := r.IntN(len(out)); heights[to] == heights[pc+1] && (to > pc || r.IntN(4) == 0) {
				out[pc].A = to
			}
		}
	}
	return out
}

// made: a program of three functions, shaken at times, so that it may have an error.
func made(r *rand.Rand) api.Module {
	ret := func() []api.Instr { return code(in(api.OpJump, 0)) }
	m := bare(
		api.Func{Ret: number, Locals: is(number, text, list, rec(0)), Code: ret()},
		api.Func{Args: is(number, han(3)), Ret: rec(2), Locals: is(any0, text), Code: ret()},
		api.Func{Args: is(rec(0)), Ret: number, Locals: is(number, number, number), Code: ret()},
	)
	for f := range m.Funcs {
		m.Funcs[f].Code = grown(r, m, f)
	}
	for f := range m.Funcs {
		if r.IntN(4) == 0 {
			to := &m.Funcs[f].Code[r.IntN(len(m.Funcs[f].Code))]
			*to = one(r, in(api.OpRet), in(api.OpRet), some(r), in(api.OpJump, r.IntN(4)))
		}
	}
	return m
}

// reading: what Compile has to answer, by what it says once more: chapter 9's Shapes, and what told tells of chapter 8.
func reading(m api.Module) ([][]Ins, api.Errno) {
	maps, _, _, e := verify.Check(m)
	var out [][]Ins
	for f, shapes := range maps {
		list := []Ins{}
		for pc, s := range shapes {
			i := m.Funcs[f].Code[pc]
			x := Ins{}
			if s.Seen {
				taken, put := told(m, m.Funcs[f], i)
				x = Ins{i.Op, i.A, i.B, len(m.Funcs[f].Args) + len(m.Funcs[f].Locals) + len(s.Stack) - len(taken), len(taken), put}
			}
			list = append(list, x)
		}
		out = append(out, list)
	}
	return out, e
}

func TestMadePrograms(t *testing.T) {
	r := rand.New(rand.NewPCG(17, 1))
	errors, ops, unseen := map[api.Errno]int{}, map[int]int{}, 0
	for range 700 {
		m := made(r)
		got, e := Compile(m)
		want, wantE := reading(m)
		if e != wantE || !slices.EqualFunc(got, want, slices.Equal[[]Ins]) {
			t.Fatalf("%+v, %d; not %+v, %d; %+v", got, e, want, wantE, m)
		}
		errors[e]++
		for _, list := range got {
			for _, x := range list {
				if x == (Ins{}) {
					unseen++
				} else {
					ops[x.Op]++
				}
			}
		}
		leadsOn(t, m, got)
	}
	for op := range api.Ops {
		if ops[op] < 10 {
			t.Errorf("instruction %d stood at %d places", op, ops[op])
		}
	}
	if errors[api.OK] < 300 || errors[api.ErrType] < 200 || unseen < 500 {
		t.Errorf("too little of one: %v, %d not seen", errors, unseen)
	}
}

// leadsOn: that what each puts ends where what it takes ends of each that it leads to.
func leadsOn(t *testing.T, m api.Module, got [][]Ins) {
	t.Helper()
	maps, _, _, _ := verify.Check(m)
	for f, list := range got {
		for pc, x := range list {
			if !maps[f][pc].Seen {
				continue
			}
			_, next, _ := flow.Flow(m, f, pc, maps[f][pc].Stack)
			for _, n := range next {
				if to := list[n]; to.At+to.In != x.At+x.Out {
					t.Fatalf("function %d: behind %+v stands %+v; %+v", f, x, to, m)
				}
			}
		}
	}
}
