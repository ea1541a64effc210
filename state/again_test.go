package state

import (
	"fmt"
	"math/rand/v2"
	"slices"
	"testing"

	"chrysalis/api"
	"chrysalis/flow"
	"chrysalis/judge"
)

// wants: a number, and the type that it has to have.
type wants struct {
	n uint64
	x api.Type
}

// refers: that a number is null, or refers to an object of which ok holds.
func refers(s api.State, n uint64, ok func(api.Obj) bool) bool {
	for k, o := range s.Heap {
		if uint64(k)+1 == n {
			return ok(o)
		}
	}
	return n == 0
}

// hasType: the chapter's list, type by type.
func hasType(s api.State, p wants) bool {
	if p.x.Kind == api.Int || p.x.Kind == api.None {
		return true
	}
	if p.x.Kind == api.Null {
		return p.n == 0
	}
	if p.x.Kind == api.Any {
		return refers(s, p.n, func(api.Obj) bool { return true })
	}
	if p.x.Kind != api.Han {
		return refers(s, p.n, func(o api.Obj) bool { return o.Kind == p.x.Kind && o.N == p.x.N })
	}
	for k, h := range s.Hans {
		if uint64(k) == p.n {
			return h.Kind == p.x.N
		}
	}
	return false
}

// reading: what is wrong with a state, and the numbers in it that have to have types.
type reading struct {
	m     api.Module
	maps  [][]api.Shape
	s     api.State
	wrong []string
	all   []wants
}

// ask keeps words, if it is not ok.
func (r *reading) ask(ok bool, words string) bool {
	if !ok {
		r.wrong = append(r.wrong, words)
	}
	return ok
}

// add keeps numbers to be asked for these types.
func (r *reading) add(what string, numbers []uint64, types []api.Type) {
	for k := range min(len(numbers), len(types)) {
		r.all = append(r.all, wants{numbers[k], types[k]})
	}
	r.ask(len(numbers) == len(types), what)
}

// wrongs: what is wrong with s, once more by the chapter's words: what is counted first, then all numbers that have types, in one list.
func wrongs(m api.Module, maps [][]api.Shape, s api.State) []string {
	if !judge.Right(m, maps) {
		return []string{"maps"}
	}
	r := &reading{m: m, maps: maps, s: s}
	r.ask(s.Quota >= 0 && s.Quota <= 1<<16, "quota")
	r.ask(s.Used >= 0 && s.Used <= s.Quota, "used")
	r.ask(len(s.Heap) <= 1<<12, "many objects")
	r.ask(len(s.Hans) <= 16, "many handles")
	r.ask(s.End >= 0 && s.End <= 7, "end")
	for _, h := range s.Hans {
		r.ask(h.Kind >= 0 && h.Kind <= 3, "kind of handle")
	}
	for _, o := range s.Heap {
		r.object(o)
	}
	if s.End == 0 {
		r.ask(s.Value == 0, "value")
		r.ask(len(s.Frames) >= 1 && len(s.Frames) <= 8, "depth")
		for n, f := range s.Frames {
			r.ask(n > 0 || f.Func == 0, "first function")
			r.frame(n, f)
		}
	} else {
		r.ask(len(s.Frames) == 0 && len(s.Heap) == 0, "what is left")
		r.ask(s.Value == 0 || s.End == 1, "value of a trap")
	}
	for _, p := range r.all {
		r.ask(hasType(s, p), fmt.Sprint("type ", p.x.Kind))
	}
	return r.wrong
}

func (r *reading) object(o api.Obj) {
	switch {
	case o.Kind == api.Rec && o.N >= 0 && o.N < len(r.m.Recs):
		r.add("words of a record", o.Words, r.m.Recs[o.N])
		r.ask(len(o.Bytes) == 0, "bytes of a record")
	case o.Kind == api.Bytes:
		r.ask(o.N == 0 && len(o.Words) == 0 && len(o.Bytes) <= 64, "bytes")
	default:
		r.ask(o.Kind == api.Ints && o.N == 0 && len(o.Bytes) == 0 && len(o.Words) <= 64, "numbers")
	}
}

func (r *reading) frame(n int, f api.Frame) {
	if !r.ask(f.Func >= 0 && f.Func < len(r.m.Funcs), "function") || !r.ask(f.PC >= 0 && f.PC < len(r.m.Funcs[f.Func].Code), "instruction") {
		return
	}
	r.ask(r.maps[f.Func][f.PC].Seen, "seen")
	r.add("locals", f.Locals, localTypes(r.m.Funcs[f.Func]))
	if n == len(r.s.Frames)-1 {
		r.add("stack", f.Stack, r.maps[f.Func][f.PC].Stack)
		return
	}
	if !r.ask(f.PC > 0 && r.maps[f.Func][f.PC-1].Seen, "seen ahead") {
		return
	}
	ahead, next := r.m.Funcs[f.Func].Code[f.PC-1], r.s.Frames[n+1].Func
	if r.ask(ahead.Op == api.OpCall, "call") && r.ask(ahead.A == next, "called") {
		types := r.maps[f.Func][f.PC-1].Stack
		for range r.m.Funcs[next].Args {
			types = types[:len(types)-1]
		}
		r.add("stack of what waits", f.Stack, types)
	}
}

// localTypes: those of a function's locals, one by one.
func localTypes(f api.Func) []api.Type {
	var out []api.Type
	for x := flow.Local(f, 0); x != none; x = flow.Local(f, len(out)) {
		out = append(out, x)
	}
	return out
}

// grower makes states of a program that are typed, by chance.
type grower struct {
	r    *rand.Rand
	m    api.Module
	maps [][]api.Shape
	s    api.State
}

// number: one that has type x.
func (g *grower) number(x api.Type) uint64 {
	var good []uint64
	for n := range uint64(max(len(g.s.Heap)+1, len(g.s.Hans))) {
		if hasType(g.s, wants{n, x}) {
			good = append(good, n)
		}
	}
	if x == number || x == none {
		good = append(good, top, 1<<32, g.r.Uint64())
	}
	return good[g.r.IntN(len(good))]
}

// numbers: as many as types, each having its own.
func (g *grower) numbers(types []api.Type) []uint64 {
	var out []uint64
	for _, x := range types {
		out = append(out, g.number(x))
	}
	return out
}

// things: objects of all sorts, and at least one handle of each kind.
func (g *grower) things() {
	for n := range g.r.IntN(8) + api.MaxKinds {
		g.s.Hans = append(g.s.Hans, api.Handle{Kind: n % api.MaxKinds, Desc: g.r.Uint64N(9), Open: g.r.IntN(2) == 0})
	}
	for range g.r.IntN(12) {
		kind := api.Bytes + g.r.IntN(3)
		o := api.Obj{Kind: kind}
		switch kind {
		case api.Bytes:
			o.Bytes = many(g.r.IntN(api.MaxLen+1), byte(5))
		case api.Ints:
			o.Words = many(g.r.IntN(api.MaxLen+1), uint64(top))
		case api.Rec:
			o.N = g.r.IntN(len(g.m.Recs))
		}
		g.s.Heap = append(g.s.Heap, o)
	}
	for n, o := range g.s.Heap { // behind all of them: they may refer to later ones
		if o.Kind == api.Rec {
			g.s.Heap[n].Words = g.numbers(g.m.Recs[o.N])
		}
	}
}

// frames: some that wait, and one that goes on.
func (g *grower) frames() {
	f := 0
	for range g.r.IntN(api.MaxDepth) {
		var calls []int
		for pc, i := range g.m.Funcs[f].Code {
			if i.Op == api.OpCall && g.maps[f][pc].Seen {
				calls = append(calls, pc)
			}
		}
		if len(calls) == 0 {
			break
		}
		pc := calls[g.r.IntN(len(calls))]
		next := g.m.Funcs[f].Code[pc].A
		types := g.maps[f][pc].Stack
		types = types[:len(types)-len(g.m.Funcs[next].Args)]
		g.s.Frames = append(g.s.Frames, at(f, pc+1, g.numbers(localTypes(g.m.Funcs[f])), g.numbers(types)))
		f = next
	}
	pc := g.r.IntN(len(g.maps[f]))
	for !g.maps[f][pc].Seen {
		pc = g.r.IntN(len(g.maps[f]))
	}
	g.s.Frames = append(g.s.Frames, at(f, pc, g.numbers(localTypes(g.m.Funcs[f])), g.numbers(g.maps[f][pc].Stack)))
}

// grown: a state that is typed.
func grown(r *rand.Rand, m api.Module, maps [][]api.Shape) api.State {
	g := &grower{r: r, m: m, maps: maps, s: api.State{Quota: r.IntN(api.MaxQuota + 1)}}
	g.s.Used = r.IntN(g.s.Quota + 1)
	g.things()
	if r.IntN(12) == 0 {
		g.s.Heap, g.s.End = nil, api.Done+r.IntN(api.TrapClosed)
		if g.s.End == api.Done {
			g.s.Value = r.Uint64()
		}
		return g.s
	}
	g.frames()
	return g.s
}

// programs: some, with Shapes that are the least ones, and some with others.
func programs(t *testing.T) ([]api.Module, [][][]api.Shape) {
	t.Helper()
	m := world()
	island, wide := worldLines(), worldLines()
	island[2] = ", R2, R2 R2, R2 R2, I, , R2, A R2, A R2 R2, A R2 R2, A R2" // what nobody comes to
	wide[0], wide[2] = ", I, I A, I X H1, I X H1 I, I X A, I X, I, I X, I X X, I X, I", ", R2, R2 R2, R2 A, X, , R2, -, -, -, -"
	modules := []api.Module{m, m, m, prog(back())}
	return modules, [][][]api.Shape{checked(t, m), right(t, m, island...), right(t, m, wide...), checked(t, prog(back()))}
}

func TestGrownStates(t *testing.T) {
	r := rand.New(rand.NewPCG(14, 1))
	modules, all := programs(t)
	depths := map[int]int{}
	for n := range 600 {
		m, maps := modules[n%len(modules)], all[n%len(modules)]
		s := grown(r, m, maps)
		if list := wrongs(m, maps, s); len(list) > 0 {
			t.Fatalf("%v: %s", list, dump(s))
		}
		says(t, true, m, maps, s)
		same(t, true, s, Clone(s))
		depths[len(s.Frames)]++
	}
	for depth := range api.MaxDepth + 1 {
		if depths[depth] < 5 {
			t.Errorf("too few of depth %d: %v", depth, depths)
		}
	}
}

func TestShakenStates(t *testing.T) {
	r := rand.New(rand.NewPCG(14, 2))
	modules, all := programs(t)
	kinds, good := map[string]int{}, 0
	for n := range 100 {
		m, maps := modules[n%len(modules)], all[n%len(modules)]
		s := grown(r, m, maps)
		list := changes(s)
		for range 40 {
			c := list[r.IntN(len(list))]
			wrong := wrongs(m, maps, c)
			says(t, len(wrong) == 0, m, maps, c)
			same(t, false, s, c)
			if len(wrong) == 0 {
				good++
			} else {
				kinds[wrong[0]]++
			}
		}
	}
	if good < 300 || len(kinds) < 15 {
		t.Errorf("%d are typed; what is wrong: %v", good, kinds)
	}
}

// A number of one state in the place of one of another: most of them stand near what is right.
func TestStatesCrossed(t *testing.T) {
	r := rand.New(rand.NewPCG(14, 3))
	m, maps := world(), checked(t, world())
	good := 0
	for range 2000 {
		a, b := grown(r, m, maps), grown(r, m, maps)
		switch r.IntN(6) {
		case 0:
			a.Heap = b.Heap
		case 1:
			a.Hans = b.Hans
		case 2:
			a.Frames = append(a.Frames[:len(a.Frames)/2], b.Frames...)
		case 3:
			a.Frames = append(a.Frames, b.Frames...)
		case 4:
			a.Heap = a.Heap[:len(a.Heap)/2]
		case 5:
			if len(a.Frames) > 0 && len(b.Frames) > 0 {
				last := len(a.Frames) - 1
				a.Frames[last].PC, a.Frames[last].Stack = b.Frames[0].PC, b.Frames[0].Stack
			}
		}
		ok := len(wrongs(m, maps, a)) == 0
		says(t, ok, m, maps, a)
		if ok {
			good++
		}
	}
	if good < 200 || good > 1800 {
		t.Errorf("%d are typed", good)
	}
}

// walk: does the next instruction of s, as far as the walks here go; false, if it has ended, or there is no room to go on.
func walk(r *rand.Rand, m api.Module, s *api.State) bool {
	f := &s.Frames[len(s.Frames)-1]
	i := m.Funcs[f.Func].Code[f.PC]
	f.PC++
	switch i.Op {
	case api.OpInt:
		push(f, m.Ints[i.A])
	case api.OpNull:
		push(f, 0)
	case api.OpGet:
		push(f, f.Locals[i.A])
	case api.OpPop:
		pop(f, 1)
	case api.OpZero:
		if pop(f, 1)[0] == 0 {
			f.PC = i.A
		}
	case api.OpText:
		s.Heap = append(s.Heap, api.Obj{Kind: api.Bytes, Bytes: []byte(m.Texts[i.A])})
		push(f, uint64(len(s.Heap)))
	case api.OpNew:
		s.Heap = append(s.Heap, api.Obj{Kind: api.Rec, N: i.A, Words: pop(f, len(m.Recs[i.A]))})
		push(f, uint64(len(s.Heap)))
	case api.OpHost:
		n := r.Uint64N(3)
		if x := m.Imports[i.A].Ret; x.Kind == api.Han {
			if len(s.Hans) == api.MaxHans {
				return false
			}
			s.Hans = append(s.Hans, api.Handle{Kind: x.N, Open: true})
			n = uint64(len(s.Hans) - 1)
		}
		push(f, n)
	case api.OpCall:
		called := m.Funcs[i.A]
		locals := append(pop(f, len(called.Args)), make([]uint64, len(called.Locals))...)
		s.Frames = append(s.Frames, at(i.A, 0, locals, nil))
		return len(s.Frames) <= api.MaxDepth
	case api.OpRet:
		result := pop(f, 1)[0]
		s.Frames = s.Frames[:len(s.Frames)-1]
		if len(s.Frames) == 0 {
			s.Heap, s.End, s.Value = nil, api.Done, result
			return false
		}
		push(&s.Frames[len(s.Frames)-1], result)
	default:
		panic("no such walk")
	}
	return true
}

func push(f *api.Frame, n uint64) { f.Stack = append(f.Stack, n) }

// pop takes the last so many of f's stack, in order.
func pop(f *api.Frame, count int) []uint64 {
	below := len(f.Stack) - count
	out := slices.Clone(f.Stack[below:])
	f.Stack = f.Stack[:below]
	return out
}

// Whatever a program comes to is typed, from its beginning to its end.
func TestWhatAProgramComesTo(t *testing.T) {
	r := rand.New(rand.NewPCG(14, 4))
	m := bare(
		api.Func{Ret: number, Locals: []api.Type{number, text}, Code: code(
			in(api.OpInt, 1), api.OpText, in(api.OpHost, 2), in(api.OpHost, 0), in(api.OpCall, 1), api.OpPop, api.OpPop,
			in(api.OpHost, 0), in(api.OpZero, 11), in(api.OpCall, 0), api.OpPop, api.OpRet)},
		api.Func{Args: []api.Type{han(1), number}, Ret: any0, Locals: []api.Type{rec(2), any0}, Code: code(
			api.OpNull, in(api.OpGet, 0), in(api.OpGet, 1), in(api.OpZero, 6), api.OpText, api.OpPop, in(api.OpGet, 2), in(api.OpCall, 2), api.OpRet)},
		api.Func{Args: []api.Type{rec(2)}, Ret: rec(2), Code: code(
			in(api.OpHost, 0), in(api.OpZero, 10), in(api.OpGet, 0), in(api.OpHost, 2), api.OpNull, api.OpNull, in(api.OpNew, 2), in(api.OpCall, 2), api.OpPop, api.OpPop, in(api.OpGet, 0), api.OpRet)},
	)
	maps := checked(t, m)
	ends, visited := map[int]int{}, map[[2]int]int{}
	for range 60 {
		s := begins(t, m, 1000, 2)
		for more := true; more; {
			says(t, true, m, maps, s)
			f := s.Frames[len(s.Frames)-1]
			visited[[2]int{f.Func, f.PC}]++
			before := Clone(s)
			more = walk(r, m, &s)
			same(t, false, before, s)
		}
		says(t, s.End == api.Done, m, maps, s) // what has no room stands half way
		ends[s.End]++
	}
	if ends[api.Done] < 10 || ends[api.Going] < 3 || len(visited) < 30 {
		t.Errorf("ends %v; %v", ends, visited)
	}
}
