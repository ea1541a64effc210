package state

import (
	"fmt"
	"slices"
	"testing"

	"chrysalis/api"
	"chrysalis/judge"
)

// fits: which numbers have a type among things and handles, but for Int and None, which any has.
func fits() map[api.Type][]uint64 {
	out := map[api.Type][]uint64{
		text: w(0, 1, 6), list: w(0, 2), null: w(0), any0: w(0, 1, 2, 3, 4, 5, 6, 7, 8), {Kind: api.Any, N: 9}: w(0, 1, 2, 3, 4, 5, 6, 7, 8), {Kind: api.Null, N: 1}: w(0),
		rec(0): w(0, 3, 8), rec(1): w(0, 4), rec(2): w(0, 5), rec(3): w(0, 7), rec(4): w(0), rec(-1): w(0), rec(256): w(0),
		han(0): w(0), han(1): w(1, 3), han(2): w(2), han(3): w(4), han(4): nil, han(-1): nil, han(256): nil,
		{Kind: api.Bytes, N: 1}: w(0), {Kind: api.Ints, N: 2}: w(0), {}: w(0), {Kind: -1}: w(0), {Kind: 9}: w(0), {Kind: 77, N: 78}: w(0), {Kind: 256 + api.Int}: w(0), {Kind: 256 + api.Bytes}: w(0), {N: 1}: w(0),
	}
	return out
}

// numbers: small ones, and such as are small in their lowest bits alone.
func numbers() []uint64 {
	out := w(0, 1, 2, 3, 4, 5, 6, 7, 8, 9, 10, 16, 1<<63-1, top)
	for _, bit := range []uint64{1 << 8, 1 << 16, 1 << 31, 1 << 32, 1 << 63} {
		out = append(out, bit, bit+1, bit+2, bit+3, bit+5, -bit)
	}
	return out
}

// place: where a number of any of some types can stand: a program, Shapes of it, and a state that has the number there.
type place struct {
	name string
	m    api.Module
	maps [][]api.Shape
	with func(n uint64) api.State
}

// onStack: code that leads from one place to the next with x on the stack, which nobody comes to, and a state there, with a number of x.
func onStack(_ *testing.T, x api.Type) place {
	m := prog(back(), in(api.OpJump, 3), in(api.OpJump, 2))
	maps := [][]api.Shape{shapes(", I, , ")}
	for pc := 2; pc < 4; pc++ {
		maps[0][pc].Stack = []api.Type{number, x, number}
	}
	return place{"stack", m, maps, func(n uint64) api.State { return going(at(0, 3, nil, w(top, n, top))) }}
}

// below: code that calls with x on the stack, below what is handed over.
func below(_ *testing.T, x api.Type) place {
	m := bare(api.Func{Ret: number, Code: code(back(), in(api.OpCall, 1), api.OpPop, api.OpInt, in(api.OpJump, 2))}, api.Func{Args: []api.Type{number}, Ret: number, Code: back()})
	maps := [][]api.Shape{shapes(", I, , , , "), shapes(", I")}
	maps[0][2].Stack, maps[0][3].Stack, maps[0][4].Stack, maps[0][5].Stack = []api.Type{x, number}, []api.Type{x, number}, []api.Type{x}, []api.Type{x, number}
	return place{"below", m, maps, func(n uint64) api.State { return going(at(0, 3, nil, w(n)), at(1, 0, w(top), nil)) }}
}

// argument: what is handed to a function; x is good.
func argument(_ *testing.T, x api.Type) place {
	m := bare(api.Func{Ret: number, Code: code(back(), in(api.OpCall, 1), api.OpRet)}, api.Func{Args: []api.Type{number, x}, Ret: number, Locals: []api.Type{number}, Code: back()})
	maps := [][]api.Shape{shapes(", I, , I"), shapes(", I")}
	maps[0][2].Stack = []api.Type{number, x}
	return place{"argument", m, maps, func(n uint64) api.State { return going(at(0, 3, nil, nil), at(1, 1, w(top, n, top), w(top))) }}
}

// local: a local of function 0, or of one that waits for another one; x is good, and no handle.
func local(t *testing.T, x api.Type) place {
	m := bare(api.Func{Ret: number, Locals: []api.Type{number, x, number}, Code: back()})
	return place{"local", m, checked(t, m), func(n uint64) api.State { return going(at(0, 1, w(top, n, top), w(top))) }}
}

func waitingLocal(t *testing.T, x api.Type) place {
	m := bare(api.Func{Ret: number, Locals: []api.Type{number, x}, Code: code(in(api.OpCall, 0), api.OpRet)})
	return place{"waiting local", m, checked(t, m), func(n uint64) api.State {
		return going(at(0, 1, w(top, 0), nil), at(0, 1, w(top, n), nil), at(0, 0, w(top, 0), nil))
	}}
}

// field: of a record that nobody has, or that somebody has; x is good.
func field(t *testing.T, x api.Type) place {
	m := prog(back())
	m.Recs = append(m.Recs, []api.Type{number, x, number})
	return place{"field", m, checked(t, m), func(n uint64) api.State {
		s := going(at(0, 0, nil, nil))
		s.Heap[7] = api.Obj{Kind: api.Rec, N: 4, Words: w(top, n, top)}
		s.Heap[6].Words[1] = 0 // it was rec(0)
		return s
	}}
}

func TestNumbersHaveTypes(t *testing.T) {
	asked := map[string]int{}
	each := func(x api.Type, want func(n uint64) bool, build func(*testing.T, api.Type) place) {
		p := build(t, x)
		asked[p.name]++
		if !judge.Right(p.m, p.maps) {
			t.Fatalf("%s of %v is not Right", p.name, x)
		}
		for _, n := range numbers() {
			if got := Typed(p.m, p.maps, p.with(n)); got != want(n) {
				t.Errorf("%#x as %v, %s: %v", n, x, p.name, got)
			}
		}
	}
	for x, list := range fits() {
		want := func(n uint64) bool { return slices.Contains(list, n) }
		each(x, want, onStack)
		each(x, want, below)
		if x.N < 0 || x.N > 3 || x.Kind == api.Null || x.Kind < api.Bytes || x.Kind > api.Any || x.N > 0 && x.Kind != api.Rec && x.Kind != api.Han {
			continue // no program can name it
		}
		each(x, want, argument)
		if x.Kind != api.Han {
			each(x, want, local)
			each(x, want, waitingLocal)
		}
		if x != rec(0) { // as the last thing is none there
			each(x, want, field)
		}
	}
	always := func(uint64) bool { return true }
	for _, x := range []api.Type{number, none, {Kind: api.Int, N: 5}, {Kind: api.None, N: -1}} {
		each(x, always, onStack)
		each(x, always, below)
	}
	for _, build := range []func(*testing.T, api.Type) place{argument, local, waitingLocal, field} {
		each(number, always, build)
	}
	if fmt.Sprint(asked) != "map[argument:12 below:33 field:11 local:8 stack:33 waiting local:8]" {
		t.Error(asked)
	}
}

// Whether a handle is open is not asked, nor what the host knows it by.
func TestClosedHandles(t *testing.T) {
	for _, open := range []bool{true, false} {
		for _, desc := range []uint64{0, 1, top} {
			for kind := range api.MaxKinds {
				p := argument(t, han(kind))
				for there := range api.MaxHans + 1 {
					s := p.with(uint64(there) - 1)
					s.Heap, s.Hans = nil, many(there, api.Handle{Kind: kind, Desc: desc, Open: open})
					says(t, there > 0, p.m, p.maps, s)
					s.Frames[1].Locals[1]++ // as many as there are
					says(t, false, p.m, p.maps, s)
					if there > 0 {
						s.Hans[0].Kind = (kind + 1) % api.MaxKinds
						s.Frames[1].Locals[1] = 0
						says(t, false, p.m, p.maps, s)
					}
				}
			}
		}
	}
}

// What it refers to is asked where it stands, not where others do: objects in another order are of other types.
func TestReferencesCountFromOne(t *testing.T) {
	for count := range 5 {
		for n := range count {
			p := local(t, list)
			s := p.with(uint64(n) + 1)
			s.Heap = many(count, api.Obj{Kind: api.Bytes})
			s.Heap[n] = api.Obj{Kind: api.Ints}
			says(t, true, p.m, p.maps, s)
			for other := range uint64(count + 3) {
				s.Frames[0].Locals[1] = other
				says(t, other == 0 || other == uint64(n)+1, p.m, p.maps, s)
			}
		}
	}
}

// Without objects there is null alone; without handles nothing.
func TestWithoutObjectsAndHandles(t *testing.T) {
	for x := range fits() {
		p := onStack(t, x)
		for _, n := range numbers() {
			s := p.with(n)
			s.Heap, s.Hans = nil, nil
			says(t, n == 0 && x.Kind != api.Han, p.m, p.maps, s)
		}
	}
}

// Where there are objects in the room behind the list, they are none.
func TestRoomBehindIsNoObject(t *testing.T) {
	p, q := onStack(t, any0), onStack(t, han(1))
	for n := range uint64(9) {
		s := p.with(n)
		s.Heap = s.Heap[:2]
		says(t, n <= 2, p.m, p.maps, s)
		s = q.with(n)
		s.Heap, s.Hans = nil, s.Hans[:3]
		says(t, n == 1, q.m, q.maps, s)
	}
}
