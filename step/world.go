package step

import (
	"chrysalis/api"
	"chrysalis/hans"
	"chrysalis/heap"
)

// world is what all frames of a machine share: what they reach beside their own numbers, and the end that they come to.
type world struct {
	objects    *heap.Heap
	handles    *hans.Table
	quota, end int
	value      uint64
}

// worldOf answers the world of s.
func worldOf(s api.State) world {
	return world{objects: heap.New(s.Heap, s.Quota, s.Used), handles: hans.New(s.Hans), quota: s.Quota, end: s.End, value: s.Value}
}

// shared answers the state without frames.
func (w *world) shared() api.State {
	return api.State{Heap: w.objects.Objs(), Hans: w.handles.List(), Quota: w.quota, Used: w.objects.Used(), End: w.end, Value: w.value}
}

// finish lets all objects go; the handles, and how much was used, are still told at an end.
func (w *world) finish(end int) {
	w.end = end
	w.objects = heap.New(nil, w.quota, w.objects.Used())
}

// add answers the reference of a new object, or the trap, if there is no room for it.
func (w *world) add(o api.Obj) (uint64, int) {
	ref, ok := w.objects.Add(o)
	if !ok {
		return 0, api.TrapQuota
	}
	return ref, api.Going
}

// addZeros answers the reference of a new object of so many 0s, bytes or words by its kind, or the trap.
func (w *world) addZeros(kind int, length uint64) (uint64, int) {
	if length > api.MaxLen {
		return 0, api.TrapBounds
	}
	if kind == api.Bytes {
		return w.add(api.Obj{Kind: kind, Bytes: make([]byte, length)})
	}
	return w.add(api.Obj{Kind: kind, Words: make([]uint64, length)})
}

// length answers how long an object is, or the trap.
func (w *world) length(ref uint64) (uint64, int) {
	n, end := w.objects.Len(ref)
	return uint64(n), end
}

// tell answers what the host is told, when import n, which is i, is asked for with args; or the trap, if one of them is a closed handle.
func (w *world) tell(n int, i api.Import, args []uint64) ([]api.Event, int) {
	told := api.Event{Import: n, Args: make([]uint64, len(args))}
	copy(told.Args, args)
	for k, t := range i.Args {
		if t.Kind != api.Han {
			continue
		}
		desc, end := w.handles.Use(args[k])
		if end != api.Going {
			return nil, end
		}
		told.Args[k] = desc
	}
	return []api.Event{told}, api.Going
}

// hear answers the number of type t that the host's answer is to the program, or the trap, if there is no room for a handle.
func (w *world) hear(t api.Type, answer uint64) (uint64, int) {
	if t.Kind != api.Han {
		return answer, api.Going
	}
	n, ok := w.handles.Open(t.N, answer)
	if !ok {
		return 0, api.TrapQuota
	}
	return n, api.Going
}
