package ir

import (
	"math"
	"testing"

	"chrysalis/api"
)

func TestRegs(t *testing.T) {
	for args := range api.MaxArgs + 1 {
		for locals := range api.MaxLocals - args + 1 {
			m := with(prog(back()), api.Func{Args: many(args, number), Ret: number, Locals: many(locals, text), Code: back()})
			has(t, m, 0, 12)
			has(t, m, 1, args+locals+8)
		}
	}
	m := bare()
	for n := range api.MaxFuncs {
		m = with(m, api.Func{Ret: number, Locals: many(n, number), Code: code(many(n+1, in(api.OpInt)), api.OpRet)}) // however high their stacks are
	}
	for n := range api.MaxFuncs {
		has(t, m, n, n+api.MaxStack)
	}
}

func TestRegsOfNone(t *testing.T) {
	two := with(prog(back()), api.Func{Ret: number, Code: back()})
	for _, f := range []int{-1, -2, -8, math.MinInt, 2, 3, 8, 1 << 31, 1 << 32, math.MaxInt} {
		has(t, two, f, 0)
		has(t, api.Module{}, f, 0)
	}
	for f := range 2 {
		has(t, api.Module{}, f, 0)
		has(t, bare(), f, 0)
	}
	has(t, prog(back()), 1, 0)
	two.Funcs = two.Funcs[:1] // another one stands in the room behind
	has(t, two, 0, 12)
	has(t, two, 1, 0)
}

// A frame of a function is told by the function alone, whatever else is wrong with its program.
func TestRegsOfWhatHasAnError(t *testing.T) {
	for _, m := range []api.Module{prog(), prog(api.OpAdd), prog(api.OpInt, in(api.OpJump, 0)), prog(in(api.OpGet, 4)), prog(in(-1)), {Funcs: prog(back()).Funcs}} {
		has(t, m, 0, 12)
		has(t, m, 1, 0)
	}
	m := with(prog(back()), api.Func{Args: many(5, number), Locals: many(9, odd)}) // more than may be
	has(t, m, 0, 12)
	has(t, m, 1, 22)
	has(t, api.Module{Funcs: many(20, api.Func{})}, 19, 8)
	has(t, api.Module{Funcs: many(20, api.Func{})}, 20, 0)
}

// Registers that the instructions name are there, but for those of what puts and takes nothing on a full stack.
func TestInstructionsStayInTheirRegisters(t *testing.T) {
	for _, m := range samples() {
		got, e := Compile(m)
		if e != api.OK {
			continue
		}
		for f, list := range got {
			for pc, x := range list {
				if x.At < 0 || x.At+max(x.In, x.Out) > Regs(m, f) {
					t.Errorf("%d of function %d: %+v of %d", pc, f, x, Regs(m, f))
				}
			}
		}
	}
}
