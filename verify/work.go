package verify

import (
	"slices"

	"chrysalis/api"
	"chrysalis/flow"
	"chrysalis/kind"
)

// work is what is known of one function's Shapes so far.
type work struct {
	shapes  []api.Shape
	waiting []bool // those that have another Shape than when they were last gone on from
}

// begin answers the work on a function of so many instructions, of which the first one alone is come to.
func begin(count int) *work {
	w := &work{shapes: make([]api.Shape, count), waiting: make([]bool, count)}
	w.reach(0, nil)
	return w
}

// goOn lets what comes of instruction pc of function f reach each one that it leads to; false, if flow or one of these refuses it.
func (w *work) goOn(m api.Module, f, pc int) bool {
	w.waiting[pc] = false
	after, next, e := flow.Flow(m, f, pc, w.shapes[pc].Stack)
	if e != api.OK {
		return false
	}
	for _, n := range next {
		if !w.reach(n, after) {
			return false
		}
	}
	return true
}

// reach lets instruction pc be come to with stack, beside those that came to it already; false, if these are of another height.
func (w *work) reach(pc int, stack []api.Type) bool {
	s := &w.shapes[pc]
	if !s.Seen {
		s.Seen, s.Stack = true, slices.Clone(stack) // a copy: it may reach another one, too
		w.waiting[pc] = true
		return true
	}
	if len(s.Stack) != len(stack) {
		return false
	}
	for k, t := range stack {
		if joined := kind.Join(s.Stack[k], t); joined != s.Stack[k] {
			s.Stack[k] = joined
			w.waiting[pc] = true
		}
	}
	return true
}
