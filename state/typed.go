package state

import (
	"slices"

	"chrysalis/api"
	"chrysalis/judge"
)

// Typed tells whether s is a state that m may be in, with maps the types at each of its instructions, wherever s comes from.
func Typed(m api.Module, maps [][]api.Shape, s api.State) bool {
	if wrongCounts(s) || !judge.Right(m, maps) {
		return false
	}
	has := hasIn(s)
	if slices.ContainsFunc(s.Hans, wrongHandle) || slices.ContainsFunc(s.Heap, wrongObject(m, has)) {
		return false
	}
	if s.End != api.Going {
		return len(s.Frames) == 0 && len(s.Heap) == 0 && (s.Value == 0 || s.End == api.Done)
	}
	if s.Value != 0 || len(s.Frames) == 0 || s.Frames[0].Func != 0 {
		return false
	}
	wrong := wrongFrame(m, maps, s.Frames, has)
	for n := range s.Frames {
		if wrong(n) {
			return false
		}
	}
	return true
}

// wrongCounts tells whether s has more of something, or less, than any state may have.
func wrongCounts(s api.State) bool {
	return !upTo(api.MaxQuota, s.Quota) || !upTo(s.Quota, s.Used) || !upTo(api.TrapClosed, s.End) ||
		len(s.Frames) > api.MaxDepth || len(s.Heap) > api.MaxObjs || len(s.Hans) > api.MaxHans
}

// wrongHandle tells whether h is of a kind that no host has; open or closed, it may stand there.
func wrongHandle(h api.Handle) bool {
	return !upTo(api.MaxKinds-1, h.Kind)
}

// hasIn makes what tells whether a number has a type in s.
func hasIn(s api.State) func(n uint64, t api.Type) bool {
	return func(n uint64, t api.Type) bool {
		switch t.Kind {
		case api.Int, api.None:
			return true
		case api.Han:
			return n < uint64(len(s.Hans)) && s.Hans[n].Kind == t.N
		case api.Null:
			return n == 0
		}
		if n == 0 {
			return true
		}
		if n > uint64(len(s.Heap)) {
			return false
		}
		o := s.Heap[n-1]
		return t.Kind == api.Any || t == api.Type{Kind: o.Kind, N: o.N}
	}
}

// wrongObject makes what tells whether an object is none of m's; has tells which types its words have.
func wrongObject(m api.Module, has func(uint64, api.Type) bool) func(api.Obj) bool {
	return func(o api.Obj) bool {
		switch o.Kind {
		case api.Bytes:
			return o.N != 0 || len(o.Words) > 0 || len(o.Bytes) > api.MaxLen
		case api.Ints:
			return o.N != 0 || len(o.Words) > api.MaxLen || len(o.Bytes) > 0
		case api.Rec:
			return !upTo(len(m.Recs)-1, o.N) || len(o.Bytes) > 0 || !slices.EqualFunc(o.Words, m.Recs[o.N], has)
		}
		return true
	}
}

// wrongFrame makes what tells whether frame n may not stand where it is, or has a number without its type.
func wrongFrame(m api.Module, maps [][]api.Shape, frames []api.Frame, has func(uint64, api.Type) bool) func(n int) bool {
	return func(n int) bool {
		f := frames[n]
		stack, ok := stackAt(maps, f.Func, f.PC)
		if ok && n < len(frames)-1 {
			stack, ok = stackBelow(m, maps, f, frames[n+1].Func)
		}
		if !ok || !slices.EqualFunc(f.Stack, stack, has) {
			return true
		}
		function := m.Funcs[f.Func]
		return !slices.EqualFunc(f.Locals, slices.Concat(function.Args, function.Locals), has)
	}
}

// stackAt answers the types that stand on the stack at an instruction; false, if there is none, or it is not Seen.
func stackAt(maps [][]api.Shape, f, pc int) ([]api.Type, bool) {
	if !upTo(len(maps)-1, f) || !upTo(len(maps[f])-1, pc) || !maps[f][pc].Seen {
		return nil, false
	}
	return maps[f][pc].Stack, true
}

// stackBelow answers the types that stay on the stack of f, which waits for what function called answers; false, if f has not called it.
func stackBelow(m api.Module, maps [][]api.Shape, f api.Frame, called int) ([]api.Type, bool) {
	stack, ok := stackAt(maps, f.Func, f.PC-1)
	if !ok || m.Funcs[f.Func].Code[f.PC-1] != (api.Instr{Op: api.OpCall, A: called}) {
		return nil, false
	}
	return stack[:len(stack)-len(m.Funcs[called].Args)], true // there are as many: what is Right has them at a call
}
