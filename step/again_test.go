package step

import (
	"math/rand/v2"
	"slices"
	"testing"

	"chrysalis/api"
	"chrysalis/state"
	"chrysalis/verify"
)

// deeds: how often each instruction came to each end, or went on.
type deeds map[[2]int]int

// follow: goes on from s for up to so many instructions, and holds each against the second reading; sometimes another machine goes on.
func (d deeds) follow(t *testing.T, r *rand.Rand, m api.Module, s api.State, fuel int) {
	t.Helper()
	x := load(t, m, s)
	for range fuel {
		same(t, x.State(), s)
		if r.IntN(16) == 0 {
			x = load(t, m, s) // it has to be typed
		}
		if s.End != api.Going {
			over(t, x, s.End, s.Value, s.Used)
			return
		}
		f := s.Frames[len(s.Frames)-1]
		i := m.Funcs[f.Func].Code[f.PC]
		if asked, ok := x.Want(); ok != (i.Op == api.OpHost) || ok && asked != i.A || !ok && asked != 0 {
			t.Fatalf("Want: %d, %v of %v", asked, ok, i)
		}
		answer := one(r, 0, 1, 2, 3, 5, 64, top, r.Uint64())
		told, did := x.Next(answer)
		next, events := after(m, s, answer)
		if !did || !slices.EqualFunc(told, events, func(a, b api.Event) bool { return a.Import == b.Import && slices.Equal(a.Args, b.Args) }) {
			t.Fatalf("Next: %v, %v, not %v; %v in %s", told, did, events, i, shown(s))
		}
		if got := x.State(); !state.Same(got, next) {
			t.Fatalf("%v: %s; from %s; not %s", i, shown(got), shown(s), shown(next))
		}
		s = next
		d[[2]int{i.Op, s.End}]++
	}
}

// enough: that each instruction went on, and came to each end that it may come to, and to no other.
func (d deeds) enough(t *testing.T, least int) {
	t.Helper()
	may := map[int][]int{
		api.OpDiv: {api.TrapDiv}, api.OpRem: {api.TrapDiv}, api.OpText: {api.TrapQuota}, api.OpNew: {api.TrapQuota},
		api.OpInts: {api.TrapBounds, api.TrapQuota}, api.OpBytes: {api.TrapBounds, api.TrapQuota}, api.OpField: {api.TrapNull}, api.OpPut: {api.TrapNull},
		api.OpLoad: {api.TrapNull, api.TrapBounds}, api.OpStore: {api.TrapNull, api.TrapBounds}, api.OpLen: {api.TrapNull},
		api.OpLoadB: {api.TrapNull, api.TrapBounds}, api.OpStoreB: {api.TrapNull, api.TrapBounds}, api.OpLenB: {api.TrapNull},
		api.OpCall: {api.TrapDepth}, api.OpRet: {api.Done}, api.OpHost: {api.TrapClosed, api.TrapQuota}, api.OpClose: {api.TrapClosed},
	}
	for op := range api.Ops {
		for end := api.Going; end <= api.TrapClosed; end++ {
			count, ok := d[[2]int{op, end}], end == api.Going || slices.Contains(may[op], end)
			if ok && count < least || !ok && count > 0 {
				t.Errorf("instruction %d came to %d %d times", op, end, count)
			}
		}
	}
}

// Programs from their beginning on, and from any state that is typed.
func TestMadePrograms(t *testing.T) {
	r, d := rand.New(rand.NewPCG(15, 1)), deeds{}
	for range 160 {
		m := made(t, r)
		maps, _, _, _ := verify.Check(m)
		for _, quota := range []int{r.IntN(1000), api.MaxQuota} {
			d.follow(t, r, m, begun(t, m, quota), 200)
		}
		for range 6 {
			d.follow(t, r, m, grown(r, m, maps), 30)
		}
	}
	d.enough(t, 3)
}
