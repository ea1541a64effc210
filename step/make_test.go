package step

import (
	"math/rand/v2"
	"slices"
	"testing"

	"chrysalis/api"
	"chrysalis/flow"
	"chrysalis/verify"
)

// maker makes programs whose types fit, by chance: what a function does, and what that needs, from the outside in.
type maker struct {
	r    *rand.Rand
	m    api.Module
	f    int // the function that is made
	code []api.Instr
}

// one: any of list.
func one[T any](r *rand.Rand, list ...T) T { return list[r.IntN(len(list))] }

// put: these instructions come next.
func (g *maker) put(parts ...any) { g.code = append(g.code, code(parts...)...) }

// made: a program of up to 4 functions.
func made(t *testing.T, r *rand.Rand) api.Module {
	t.Helper()
	for range 1000 {
		m := tried(r)
		if _, _, _, e := verify.Check(m); e == api.OK {
			return m
		}
	}
	t.Fatal("no program")
	return api.Module{}
}

// tried: a program, some function of which may be too long, or need too much of the stack.
func tried(r *rand.Rand) api.Module {
	kinds := []api.Type{number, number, number, text, list, rec(0), rec(2), any0}
	g := &maker{r: r, m: bare()}
	for f := range r.IntN(4) + 1 {
		x := api.Func{Ret: number}
		if f > 0 {
			x.Ret = one(r, append(kinds, number, han(2))...)
			for range r.IntN(api.MaxArgs + 1) {
				x.Args = append(x.Args, one(r, append(kinds, han(2), han(2), han(3))...))
			}
		}
		for range r.IntN(5) {
			x.Locals = append(x.Locals, one(r, kinds...))
		}
		g.m.Funcs = append(g.m.Funcs, x)
	}
	for f, x := range g.m.Funcs {
		g.f, g.code = f, nil
		for range 1 + r.IntN(4) {
			g.deed(2)
		}
		g.value(x.Ret, 2)
		g.put(api.OpRet)
		g.m.Funcs[f].Code = g.code
	}
	return g.m
}

// local: one that has type x, or -1; its arguments among them, or not.
func (g *maker) local(x api.Type, args bool) int {
	f := g.m.Funcs[g.f]
	var good []int
	for k := range len(f.Args) + len(f.Locals) {
		if (args || k >= len(f.Args)) && flow.Local(f, k) == x {
			good = append(good, k)
		}
	}
	if len(good) == 0 {
		return -1
	}
	return one(g.r, good...)
}

// deed: something that leaves nothing on the stack; deep is how much it may need.
func (g *maker) deed(deep int) {
	switch g.r.IntN(12) {
	case 0:
		g.value(text, deep)
		g.place(deep)
		g.value(number, deep)
		g.put(api.OpStoreB)
	case 1:
		g.value(list, deep)
		g.place(deep)
		g.value(number, deep)
		g.put(api.OpStore)
	case 2:
		g.value(rec(0), deep)
		field := g.r.IntN(2)
		g.value(g.m.Recs[0][field], deep)
		g.put(in(api.OpPut, 0, field))
	case 3:
		g.value(rec(2), deep)
		field := g.r.IntN(6)
		g.value(g.m.Recs[2][field], deep)
		g.put(in(api.OpPut, 2, field))
	case 4:
		g.value(han(one(g.r, 0, 2, 3)), deep)
		g.put(api.OpClose)
	case 5:
		g.value(one(g.r, number, text, list, any0), deep)
		g.put(api.OpPop)
	case 6:
		g.often(deep)
	default:
		x := one(g.r, number, text, list, rec(0), rec(2), any0)
		g.value(x, deep)
		if k := g.local(x, true); k >= 0 {
			g.put(in(api.OpSet, k))
		} else {
			g.put(api.OpPop)
		}
	}
}

// often: something up to three times, by a local that counts.
func (g *maker) often(deep int) {
	k := g.local(number, false)
	if k < 0 || deep < 2 {
		g.deed(deep)
		return
	}
	g.put(n(one(g.r, w(1, 2, 3)...)), in(api.OpSet, k))
	again := len(g.code)
	g.put(in(api.OpGet, k), api.OpZero)
	g.deed(deep - 1)
	g.put(in(api.OpGet, k), n(1), api.OpSub, in(api.OpSet, k), in(api.OpJump, again))
	g.code[again+1].A = len(g.code)
}

// place: where in a list or a text: there, mostly.
func (g *maker) place(deep int) {
	if g.r.IntN(4) == 0 {
		g.value(number, deep-1)
		return
	}
	g.put(n(one(g.r, w(0, 0, 1, 1, 2)...)))
}

// value: something that leaves one of type x on the stack, and takes nothing that is there.
func (g *maker) value(x api.Type, deep int) {
	if k := g.local(x, true); k >= 0 && (g.r.IntN(3) == 0 || x.Kind == api.Han && g.r.IntN(3) > 0) {
		g.put(in(api.OpGet, k))
		return
	}
	if deep > 0 && g.r.IntN(6) == 0 && g.call(x, deep-1) {
		return
	}
	if deep > 0 && x.Kind != api.Han && g.r.IntN(8) == 0 {
		g.either(x, deep-1)
		return
	}
	switch {
	case x == number && deep > 0:
		g.number(deep - 1)
	case x == number:
		g.put(n(one(g.r, ints()...)))
	case x.Kind == api.Han:
		g.handle(x, deep-1)
	case g.r.IntN(16) == 0:
		g.put(api.OpNull)
	case deep > 0 && g.r.IntN(4) == 0:
		g.field(x, deep-1)
	default:
		g.object(x, deep-1)
	}
}

// call: one of type x is what a function answers; false, if none of the next ones does.
func (g *maker) call(x api.Type, deep int) bool {
	for f, c := range g.m.Funcs {
		if c.Ret != x || f <= g.f && g.r.IntN(12) > 0 || len(c.Args) > 2 && deep == 0 {
			continue
		}
		for _, a := range c.Args {
			g.value(a, deep-1)
		}
		g.put(in(api.OpCall, f))
		return true
	}
	return false
}

// either: one of two, by a number.
func (g *maker) either(x api.Type, deep int) {
	g.value(number, deep)
	ahead := len(g.code)
	g.put(api.OpZero)
	g.value(x, deep)
	over := len(g.code)
	g.put(api.OpJump)
	g.code[ahead].A = len(g.code)
	g.value(x, deep)
	g.code[over].A = len(g.code)
}

// field: what a record has.
func (g *maker) field(x api.Type, deep int) {
	for which, fields := range g.m.Recs {
		if k := slices.Index(fields, x); k >= 0 {
			g.value(rec(which), deep)
			g.put(in(api.OpField, which, k))
			return
		}
	}
	g.object(x, deep)
}

// object: a new one.
func (g *maker) object(x api.Type, deep int) {
	switch {
	case x == text && g.r.IntN(2) == 0:
		g.put(in(api.OpText, g.r.IntN(4)))
	case x == text:
		g.put(n(one(g.r, w(0, 2, 3, 64, 64, 65, 200)...)), api.OpBytes)
	case x == list && deep > 0 && g.r.IntN(6) == 0:
		g.value(number, deep)
		g.put(api.OpInts)
	case x == list:
		g.put(n(one(g.r, w(0, 2, 3, 3, 3, 64)...)), api.OpInts)
	case x.Kind == api.Rec:
		for k, field := range g.m.Recs[x.N] {
			if field.Kind == api.Rec && (deep <= 0 || g.r.IntN(3) > 0) { // else there would be no end
				g.put(api.OpNull)
			} else {
				g.value(field, min(deep, 1-k/3))
			}
		}
		g.put(in(api.OpNew, x.N))
	default:
		g.value(one(g.r, text, list, rec(0), rec(1)), deep)
	}
}

// handle: one of kind 0, 2 or 3.
func (g *maker) handle(x api.Type, deep int) {
	switch {
	case x.N == 0:
		g.value(han(2), deep)
		g.value(number, deep)
		g.put(in(api.OpHost, askFirst))
	case x.N == 3 && deep > 0:
		g.value(number, 0)
		g.value(han(2), 0)
		g.value(han(3), 0)
		g.value(number, 0)
		g.put(in(api.OpHost, tellMany))
	case x.N == 3:
		g.put(in(api.OpHost, askOther))
	default:
		g.put(in(api.OpHost, askHan))
	}
}

// number: one that comes of others, or of objects, or of the host.
func (g *maker) number(deep int) {
	switch g.r.IntN(16) {
	case 0:
		g.value(text, deep)
		g.put(api.OpLenB)
	case 1:
		g.value(list, deep)
		g.put(api.OpLen)
	case 2:
		g.value(text, deep)
		g.place(deep)
		g.put(api.OpLoadB)
	case 3:
		g.value(list, deep)
		g.place(deep)
		g.put(api.OpLoad)
	case 4:
		g.value(one(g.r, text, any0, rec(0)), deep)
		g.put(api.OpIsNull)
	case 5:
		g.value(one(g.r, text, any0, rec(0)), deep)
		g.put(api.OpDup)
		g.value(one(g.r, any0, text), deep)
		g.put(api.OpSame, api.OpSwap, api.OpPop)
	case 6:
		g.value(han(2), deep)
		g.put(in(api.OpHost, tellHan))
	case 7:
		g.put(in(api.OpHost, askNumber))
	case 8:
		g.value(number, deep)
		g.value(number, deep)
		g.put(in(api.OpHost, tellTwo))
	default:
		g.value(number, deep)
		if g.r.IntN(4) == 0 {
			g.put(n(0))
		} else {
			g.value(number, deep)
		}
		op := api.OpAdd + g.r.IntN(api.OpTwist-api.OpAdd+1)
		if g.r.IntN(4) == 0 {
			op = one(g.r, api.OpDiv, api.OpRem)
		}
		g.put(op)
		if op == api.OpTwist {
			g.put(one(g.r, code(api.OpPop), code(api.OpSub), code(api.OpDup, api.OpPop, api.OpSwap, api.OpPop)))
		}
	}
}

// grower makes states of a program that are typed, by chance.
type grower struct {
	r    *rand.Rand
	m    api.Module
	maps [][]api.Shape
	s    api.State
}

// grown: a state that is typed, as no program may come to it.
func grown(r *rand.Rand, m api.Module, maps [][]api.Shape) api.State {
	g := &grower{r: r, m: m, maps: maps, s: api.State{Quota: r.IntN(api.MaxQuota + 1)}}
	g.s.Used = one(r, 0, r.IntN(g.s.Quota+1), max(0, g.s.Quota-20))
	g.things()
	g.frames()
	return g.s
}

// number: one that has type x.
func (g *grower) number(x api.Type) uint64 {
	var good []uint64
	for k, h := range g.s.Hans {
		if x == han(h.Kind) {
			good = append(good, uint64(k))
		}
	}
	if x.Kind == api.Han {
		return one(g.r, good...)
	}
	for k, o := range g.s.Heap {
		if x == any0 || x == (api.Type{Kind: o.Kind, N: o.N}) {
			good = append(good, uint64(k)+1)
		}
	}
	if x.Kind == api.Int || x.Kind == api.None {
		good = append(good, 1, 2, top, 1<<32, g.r.Uint64())
	}
	if len(good) == 0 || g.r.IntN(6) == 0 {
		return 0
	}
	return one(g.r, good...)
}

// numbers: as many as types, each having its own.
func (g *grower) numbers(types []api.Type) []uint64 {
	var out []uint64
	for _, x := range types {
		out = append(out, g.number(x))
	}
	return out
}

// things: objects of all sorts, and at least one handle of each kind.
func (g *grower) things() {
	for k := range one(g.r, 4, 6, 15, 16) {
		g.s.Hans = append(g.s.Hans, api.Handle{Kind: k % api.MaxKinds, Desc: g.r.Uint64N(9), Open: g.r.IntN(4) > 0})
	}
	for range g.r.IntN(12) {
		g.s.Heap = append(g.s.Heap, one(g.r, bytesOf("abcdef"), bytesOf(""), wordsOf(0, top, 2), wordsOf(make([]uint64, api.MaxLen)...), recOf(0), recOf(1), recOf(2), recOf(3)))
	}
	for k, o := range g.s.Heap { // behind all of them: they may refer to later ones
		if o.Kind == api.Rec {
			g.s.Heap[k].Words = g.numbers(g.m.Recs[o.N])
		}
	}
}

// frames: some that wait, and one that goes on.
func (g *grower) frames() {
	f := 0
	for range g.r.IntN(api.MaxDepth) {
		var calls []int
		for pc, i := range g.m.Funcs[f].Code {
			if i.Op == api.OpCall && g.maps[f][pc].Seen {
				calls = append(calls, pc)
			}
		}
		if len(calls) == 0 {
			break
		}
		pc := one(g.r, calls...)
		called := g.m.Funcs[f].Code[pc].A
		types := g.maps[f][pc].Stack
		g.s.Frames = append(g.s.Frames, at(f, pc+1, g.numbers(localTypes(g.m.Funcs[f])), g.numbers(types[:len(types)-len(g.m.Funcs[called].Args)])))
		f = called
	}
	var seen []int
	for pc, shape := range g.maps[f] {
		if shape.Seen {
			seen = append(seen, pc)
		}
	}
	pc := one(g.r, seen...)
	g.s.Frames = append(g.s.Frames, at(f, pc, g.numbers(localTypes(g.m.Funcs[f])), g.numbers(g.maps[f][pc].Stack)))
}

// localTypes: those of a function's locals, the arguments first.
func localTypes(f api.Func) []api.Type { return slices.Concat(f.Args, f.Locals) }
