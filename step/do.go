package step

import (
	"chrysalis/api"
	"chrysalis/arith"
)

// do does i, which the last frame has passed; it answers what the host is told, and Going, or the end that it comes to.
func (x *Machine) do(i api.Instr, answer uint64) ([]api.Event, int) {
	f := x.last()
	switch i.Op {
	case api.OpHost:
		return x.ask(f, i.A, answer)
	case api.OpCall:
		return nil, x.call(f, i.A)
	case api.OpRet:
		return nil, x.ret(f)
	}
	return nil, x.within(f, i)
}

// ask asks the host for import n. It is told ahead of there being room for a handle: that shows only once it has answered.
func (x *Machine) ask(f *api.Frame, n int, answer uint64) ([]api.Event, int) {
	asked := x.program.Imports[n]
	told, end := x.tell(n, asked, takeAll(f, len(asked.Args)))
	if end != api.Going {
		return nil, end
	}
	result, end := x.hear(asked.Ret, answer)
	return told, putOr(f, result, end)
}

// call lets f wait, and function n go on in a frame of its own.
func (x *Machine) call(f *api.Frame, n int) int {
	if len(x.frames) >= api.MaxDepth {
		return api.TrapDepth
	}
	called := x.program.Funcs[n]
	locals := make([]uint64, len(called.Args)+len(called.Locals))
	copy(locals, takeAll(f, len(called.Args)))
	x.frames = append(x.frames, api.Frame{Func: n, Locals: locals})
	return api.Going
}

// ret takes away f, which is the last frame, and hands its result to the one that waits for it, if there is one.
func (x *Machine) ret(f *api.Frame) int {
	result := take(f)
	x.frames = x.frames[:len(x.frames)-1]
	if len(x.frames) == 0 {
		x.value = result
		return api.Done
	}
	put(x.last(), result)
	return api.Going
}

// within does what changes f and the world alone.
func (x *Machine) within(f *api.Frame, i api.Instr) int {
	switch i.Op {
	case api.OpSet:
		f.Locals[i.A] = take(f)
	case api.OpPop:
		take(f)
	case api.OpDup:
		n := take(f)
		put(f, n, n)
	case api.OpSwap:
		top, lower := take(f), take(f)
		put(f, top, lower)
	case api.OpTwist:
		b, a := take(f), take(f)
		re, im, _ := arith.Do(i.Op, a, b)
		put(f, re, im)
	case api.OpJump:
		f.PC = i.A
	case api.OpZero:
		if take(f) == 0 {
			f.PC = i.A
		}
	case api.OpPut, api.OpStore, api.OpStoreB:
		return x.change(f, i)
	case api.OpClose:
		return x.handles.Close(take(f))
	default:
		n, end := x.found(f, i)
		return putOr(f, n, end)
	}
	return api.Going
}

// change writes into an object, and puts nothing.
func (x *Machine) change(f *api.Frame, i api.Instr) int {
	v := take(f)
	if i.Op == api.OpPut {
		return x.objects.SetWord(take(f), uint64(i.B), v)
	}
	n, ref := take(f), take(f)
	if i.Op == api.OpStore {
		return x.objects.SetWord(ref, n, v)
	}
	return x.objects.SetByte(ref, n, v)
}

// found answers the one number that i puts, or the trap.
func (x *Machine) found(f *api.Frame, i api.Instr) (uint64, int) {
	switch i.Op {
	case api.OpInt:
		return x.program.Ints[i.A], api.Going
	case api.OpText:
		return x.add(api.Obj{Kind: api.Bytes, Bytes: []byte(x.program.Texts[i.A])})
	case api.OpNull:
		return 0, api.Going
	case api.OpGet:
		return f.Locals[i.A], api.Going
	case api.OpNew:
		return x.add(api.Obj{Kind: api.Rec, N: i.A, Words: takeAll(f, len(x.program.Recs[i.A]))})
	case api.OpField:
		return x.objects.Word(take(f), uint64(i.B))
	case api.OpInts:
		return x.addZeros(api.Ints, take(f))
	case api.OpBytes:
		return x.addZeros(api.Bytes, take(f))
	case api.OpLoad:
		n, ref := take(f), take(f)
		return x.objects.Word(ref, n)
	case api.OpLoadB:
		n, ref := take(f), take(f)
		return x.objects.Byte(ref, n)
	case api.OpLen, api.OpLenB:
		return x.length(take(f))
	case api.OpIsNull:
		return oneIf(take(f) == 0), api.Going
	case api.OpSame:
		return oneIf(take(f) == take(f)), api.Going
	}
	return together(f, i.Op)
}

// together answers what the two numbers on top come to: OpAdd to OpLt, the only ones that found leaves.
func together(f *api.Frame, op int) (uint64, int) {
	b, a := take(f), take(f)
	n, _, ok := arith.Do(op, a, b)
	if !ok {
		return 0, api.TrapDiv
	}
	return n, api.Going
}

// take takes the top of f's stack. A state that is typed has one wherever it is asked for.
func take(f *api.Frame) uint64 {
	return takeAll(f, 1)[0]
}

// takeAll takes so many from the top of f's stack, the last one being the top. They stand where what is put next will.
func takeAll(f *api.Frame, many int) []uint64 {
	below := len(f.Stack) - many
	taken := f.Stack[below:]
	f.Stack = f.Stack[:below]
	return taken
}

// put puts numbers on f's stack, the last one on top.
func put(f *api.Frame, numbers ...uint64) {
	f.Stack = append(f.Stack, numbers...)
}

// putOr puts n on f's stack, if end is Going; a trap goes through.
func putOr(f *api.Frame, n uint64, end int) int {
	if end == api.Going {
		put(f, n)
	}
	return end
}

// oneIf answers 1, if yes; else 0.
func oneIf(yes bool) uint64 {
	if yes {
		return 1
	}
	return 0
}
