package step

import (
	"slices"

	"chrysalis/api"
	"chrysalis/state"
)

// reading: one instruction, done by the chapter's words on a state as it is told: what it takes first, then what comes of that.
type reading struct {
	m      api.Module
	s      api.State
	i      api.Instr
	n      []uint64 // what it took, in order
	answer uint64
	puts   []uint64
	told   []api.Event
}

// after: the state that the next instruction leads to, and what is told.
func after(m api.Module, s api.State, answer uint64) (api.State, []api.Event) {
	r := &reading{m: m, s: state.Clone(s), answer: answer}
	f := r.frame()
	r.i = m.Funcs[f.Func].Code[f.PC]
	below := len(f.Stack) - takes(m, r.i)
	r.n, f.Stack = slices.Clone(f.Stack[below:]), slices.Clone(f.Stack[:below])
	f.PC++
	if end := r.do(); end != api.Going {
		r.s.Frames, r.s.Heap, r.s.End = nil, nil, end
		return r.s, r.told
	}
	f = r.frame()
	f.Stack = append(f.Stack, r.puts...)
	return r.s, r.told
}

// takes: how many numbers an instruction takes, by chapter 8.
func takes(m api.Module, i api.Instr) int {
	switch i.Op {
	case api.OpInt, api.OpText, api.OpNull, api.OpGet, api.OpJump:
		return 0
	case api.OpSet, api.OpPop, api.OpDup, api.OpZero, api.OpRet, api.OpField, api.OpInts, api.OpBytes, api.OpLen, api.OpLenB, api.OpIsNull, api.OpClose:
		return 1
	case api.OpStore, api.OpStoreB:
		return 3
	case api.OpCall:
		return len(m.Funcs[i.A].Args)
	case api.OpHost:
		return len(m.Imports[i.A].Args)
	case api.OpNew:
		return len(m.Recs[i.A])
	}
	return 2
}

func (r *reading) frame() *api.Frame { return &r.s.Frames[len(r.s.Frames)-1] }

// put: that these are put; it goes on.
func (r *reading) put(numbers ...uint64) int {
	r.puts = numbers
	return api.Going
}

func (r *reading) do() int {
	switch op := r.i.Op; {
	case op >= api.OpAdd && op <= api.OpTwist:
		return r.numbers(r.n[0], r.n[1])
	case op >= api.OpNew && op <= api.OpLenB || op == api.OpText:
		return r.objects()
	case op == api.OpCall || op == api.OpRet:
		return r.frames()
	case op == api.OpHost || op == api.OpClose:
		return r.host()
	}
	f := r.frame()
	switch r.i.Op {
	case api.OpInt:
		return r.put(r.m.Ints[r.i.A])
	case api.OpNull:
		return r.put(0)
	case api.OpGet:
		return r.put(f.Locals[r.i.A])
	case api.OpSet:
		f.Locals[r.i.A] = r.n[0]
	case api.OpDup:
		return r.put(r.n[0], r.n[0])
	case api.OpSwap:
		return r.put(r.n[1], r.n[0])
	case api.OpJump:
		f.PC = r.i.A
	case api.OpZero:
		f.PC = map[bool]int{true: r.i.A, false: f.PC}[r.n[0] == 0]
	case api.OpIsNull:
		return r.put(bit(r.n[0] == 0))
	case api.OpSame:
		return r.put(bit(r.n[0] == r.n[1]))
	}
	return api.Going
}

// bit: 1 or 0.
func bit(yes bool) uint64 { return map[bool]uint64{true: 1}[yes] }

func (r *reading) numbers(a, b uint64) int {
	if b == 0 && (r.i.Op == api.OpDiv || r.i.Op == api.OpRem) {
		return api.TrapDiv
	}
	part := func(n uint64) int64 { return int64(int16(n)) }
	if r.i.Op == api.OpTwist {
		return r.put(uint64(part(a)*part(b)-part(a>>16)*part(b>>16)), uint64(part(a)*part(b>>16)+part(a>>16)*part(b)))
	}
	return r.put(map[int]func() uint64{
		api.OpAdd: func() uint64 { return a + b }, api.OpSub: func() uint64 { return a - b }, api.OpMul: func() uint64 { return a * b },
		api.OpDiv: func() uint64 { return a / b }, api.OpRem: func() uint64 { return a % b },
		api.OpAnd: func() uint64 { return a & b }, api.OpOr: func() uint64 { return a | b }, api.OpXor: func() uint64 { return a ^ b },
		api.OpShl: func() uint64 { return a << (b % 64) }, api.OpShr: func() uint64 { return a >> (b % 64) },
		api.OpAdd32: func() uint64 { return (a + b) % (1 << 32) }, api.OpMul32: func() uint64 { return a * b % (1 << 32) },
		api.OpEq: func() uint64 { return bit(a == b) }, api.OpLt: func() uint64 { return bit(a < b) },
	}[r.i.Op]())
}

// object: a new one; its reference is put.
func (r *reading) object(o api.Obj) int {
	used := r.s.Used + 16 + 8*len(o.Words) + len(o.Bytes)
	if used > r.s.Quota || len(r.s.Heap) == 1<<12 {
		return api.TrapQuota
	}
	r.s.Used, r.s.Heap = used, append(r.s.Heap, o)
	return r.put(uint64(len(r.s.Heap)))
}

func (r *reading) objects() int {
	switch op := r.i.Op; op {
	case api.OpText:
		return r.object(api.Obj{Kind: api.Bytes, Bytes: []byte(r.m.Texts[r.i.A])})
	case api.OpNew:
		return r.object(api.Obj{Kind: api.Rec, N: r.i.A, Words: r.n})
	case api.OpInts, api.OpBytes:
		if r.n[0] > 64 {
			return api.TrapBounds
		}
		if op == api.OpInts {
			return r.object(api.Obj{Kind: api.Ints, Words: make([]uint64, r.n[0])})
		}
		return r.object(api.Obj{Kind: api.Bytes, Bytes: make([]byte, r.n[0])})
	}
	if r.n[0] == 0 {
		return api.TrapNull
	}
	o := r.s.Heap[r.n[0]-1]
	switch r.i.Op {
	case api.OpField:
		return r.put(o.Words[r.i.B])
	case api.OpPut:
		o.Words[r.i.B] = r.n[1]
		return api.Going
	case api.OpLen:
		return r.put(uint64(len(o.Words)))
	case api.OpLenB:
		return r.put(uint64(len(o.Bytes)))
	}
	if r.n[1] >= uint64(len(o.Words)+len(o.Bytes)) { // it has only one of them
		return api.TrapBounds
	}
	switch r.i.Op {
	case api.OpLoad:
		return r.put(o.Words[r.n[1]])
	case api.OpLoadB:
		return r.put(uint64(o.Bytes[r.n[1]]))
	case api.OpStore:
		o.Words[r.n[1]] = r.n[2]
	case api.OpStoreB:
		o.Bytes[r.n[1]] = byte(r.n[2] % 256)
	}
	return api.Going
}

func (r *reading) frames() int {
	if r.i.Op == api.OpCall {
		if len(r.s.Frames) == 8 {
			return api.TrapDepth
		}
		locals := append(r.n, make([]uint64, len(r.m.Funcs[r.i.A].Locals))...)
		r.s.Frames = append(r.s.Frames, api.Frame{Func: r.i.A, Locals: locals})
		return api.Going
	}
	if len(r.s.Frames) == 1 {
		r.s.Value = r.n[0]
		return api.Done
	}
	r.s.Frames = r.s.Frames[:len(r.s.Frames)-1]
	return r.put(r.n[0])
}

func (r *reading) host() int {
	if r.i.Op == api.OpClose {
		if !r.s.Hans[r.n[0]].Open {
			return api.TrapClosed
		}
		r.s.Hans[r.n[0]].Open = false
		return api.Going
	}
	i, args := r.m.Imports[r.i.A], []uint64(nil)
	for k, n := range r.n {
		if i.Args[k].Kind == api.Han {
			if !r.s.Hans[n].Open {
				return api.TrapClosed
			}
			n = r.s.Hans[n].Desc
		}
		args = append(args, n)
	}
	r.told = []api.Event{{Import: r.i.A, Args: args}}
	if i.Ret.Kind != api.Han {
		return r.put(r.answer)
	}
	if len(r.s.Hans) == 16 {
		return api.TrapQuota
	}
	r.s.Hans = append(r.s.Hans, api.Handle{Kind: i.Ret.N, Desc: r.answer, Open: true})
	return r.put(uint64(len(r.s.Hans) - 1))
}
