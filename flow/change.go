package flow

import (
	"slices"

	"chrysalis/api"
	"chrysalis/kind"
)

// change is what an instruction takes from the top of a stack, the last one being the top, and what it puts there.
type change struct{ taken, put []api.Type }

// takes begins a change: these are wanted on the stack.
func takes(types ...api.Type) change {
	return change{taken: types}
}

// puts answers c with these put in the place of what it takes.
func (c change) puts(types ...api.Type) change {
	c.put = types
	return c
}

// on answers stack with c done to it; false, if it has too few, or others than those wanted, or comes to too many.
func (c change) on(stack []api.Type) ([]api.Type, bool) {
	below := len(stack) - len(c.taken)
	if below < 0 || !slices.EqualFunc(stack[below:], c.taken, kind.Sub) || below+len(c.put) > api.MaxStack {
		return nil, false
	}
	return slices.Concat(stack[:below], c.put), true
}

// changeOf answers what i, an instruction of f, does. It asks the stack where what is put, or wanted, is what stands there.
func changeOf(m api.Module, f api.Func, i api.Instr, stack []api.Type) change {
	number := plain(api.Int)
	switch i.Op {
	case api.OpInt:
		return takes().puts(number)
	case api.OpText:
		return takes().puts(plain(api.Bytes))
	case api.OpNull:
		return takes().puts(plain(api.Null))
	case api.OpGet:
		return takes().puts(Local(f, i.A))
	case api.OpSet:
		return takes(Local(f, i.A))
	case api.OpPop:
		return takes(plain(api.None))
	case api.OpDup:
		top := fromTop(stack, 0)
		return takes(top).puts(top, top)
	case api.OpSwap:
		lower, top := fromTop(stack, 1), fromTop(stack, 0)
		return takes(lower, top).puts(top, lower)
	case api.OpTwist:
		return takes(number, number).puts(number, number)
	case api.OpJump:
		return takes()
	case api.OpZero:
		return takes(number)
	case api.OpCall:
		return takes(m.Funcs[i.A].Args...).puts(m.Funcs[i.A].Ret)
	case api.OpRet:
		return takes(f.Ret)
	case api.OpHost:
		return takes(m.Imports[i.A].Args...).puts(m.Imports[i.A].Ret)
	case api.OpClose:
		return takes(api.Type{Kind: api.Han, N: fromTop(stack, 0).N}) // so that its kind is the wanted one
	case api.OpNew, api.OpField, api.OpPut:
		return recordChange(m.Recs[i.A], i)
	case api.OpInts, api.OpLoad, api.OpStore, api.OpLen, api.OpBytes, api.OpLoadB, api.OpStoreB, api.OpLenB:
		return arrayChange(i.Op)
	case api.OpIsNull:
		return takes(plain(api.Any)).puts(number)
	case api.OpSame:
		return takes(plain(api.Any), plain(api.Any)).puts(number)
	}
	return takes(number, number).puts(number) // OpAdd to OpLt: what hangs together has no other ones
}

// recordChange answers what i, which names a record of these fields, does.
func recordChange(fields []api.Type, i api.Instr) change {
	record := api.Type{Kind: api.Rec, N: i.A}
	switch i.Op {
	case api.OpNew:
		return takes(fields...).puts(record)
	case api.OpField:
		return takes(record).puts(fields[i.B])
	}
	return takes(record, fields[i.B])
}

// arrayChange answers what an instruction on numbers or bytes side by side does.
func arrayChange(op int) change {
	number, ints, bytes := plain(api.Int), plain(api.Ints), plain(api.Bytes)
	switch op {
	case api.OpInts:
		return takes(number).puts(ints)
	case api.OpLoad:
		return takes(ints, number).puts(number)
	case api.OpStore:
		return takes(ints, number, number)
	case api.OpLen:
		return takes(ints).puts(number)
	case api.OpBytes:
		return takes(number).puts(bytes)
	case api.OpLoadB:
		return takes(bytes, number).puts(number)
	case api.OpStoreB:
		return takes(bytes, number, number)
	}
	return takes(bytes).puts(number)
}

// plain answers the type of a kind whose N is 0.
func plain(k int) api.Type {
	return api.Type{Kind: k}
}

// fromTop answers the type that n others stand above; None, if the stack has too few.
func fromTop(stack []api.Type, n int) api.Type {
	if n >= len(stack) {
		return plain(api.None)
	}
	return stack[len(stack)-1-n]
}
