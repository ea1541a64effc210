package judge

import (
	"slices"
	"strings"
	"testing"

	"chrysalis/api"
)

// maker: a program of so many functions, each of so many instructions (two or more), and its Shapes.
func maker(functions, instructions int) (api.Module, []string) {
	m, lines := prog(), []string(nil)
	m.Funcs = nil
	for range functions {
		m = with(m, api.Func{Ret: number, Code: code(many(instructions-2, in(api.OpNull)), back())})
		var words []string
		for n := range instructions - 1 {
			words = append(words, strings.Repeat("N ", n))
		}
		lines = append(lines, strings.Join(append(words, strings.Repeat("N ", instructions-2)+"I"), ", "))
	}
	return m, lines
}

func TestAsManyListsAsFunctions(t *testing.T) {
	for count := 1; count <= api.MaxFuncs; count++ {
		m, lines := maker(count, 3)
		right(t, m, lines...)
		wrong(t, m, lines[:count-1]...)
		wrong(t, m, lines[1:]...)
		wrong(t, m, append(slices.Clone(lines), lines[0])...)
		wrong(t, m, append(slices.Clone(lines), "")...)
		wrong(t, m, slices.Concat(lines, lines)...)
		answers(t, false, m, append(all(lines), nil)) // one more, of nothing
		answers(t, false, m, append(all(lines), []api.Shape{}))
		answers(t, false, m, append([][]api.Shape{nil}, all(lines)...))
		wrong(t, m)
		for n := range count {
			maps := all(lines)
			maps[n] = nil
			answers(t, false, m, maps)
			maps[n] = []api.Shape{}
			answers(t, false, m, maps)
		}
	}
}

func TestAsManyShapesAsInstructions(t *testing.T) {
	for count := 1; count <= 4; count++ {
		for length := 2; length <= 6; length++ {
			m, lines := maker(count, length)
			right(t, m, lines...)
			for n := range count {
				for _, spoilt := range []string{lines[n] + ", -", lines[n] + ", ", lines[n] + ", I", ", " + lines[n], "-, " + lines[n], lines[n][:strings.LastIndex(lines[n], ",")], lines[n] + ", -, -, -"} {
					more := slices.Clone(lines)
					more[n] = spoilt
					wrong(t, m, more...)
				}
			}
		}
	}
}

// One that nobody comes to has a Shape, too.
func TestOneFewerOfThoseThatAreNotSeen(t *testing.T) {
	m := prog(back(), api.OpPop, api.OpPop)
	right(t, m, ", I, -, -")
	wrong(t, m, ", I, -")
	wrong(t, m, ", I")
	wrong(t, m, ", I, -, -, -")
	m = with(prog(back()), api.Func{Ret: text, Code: code(in(api.OpJump, 0), api.OpPop)})
	right(t, m, ", I", ", -")
	wrong(t, m, ", I", "")
	wrong(t, m, ", I", ", -, -")
	wrong(t, m, ", I, -", "") // as many in all
	wrong(t, m, ", I, -", ", -")
}

// Two functions whose lists were put the wrong way round: as many in all.
func TestShapesOfAnotherFunction(t *testing.T) {
	m := with(prog(back()), api.Func{Ret: number, Code: code(in(api.OpJump, 1), back())})
	right(t, m, ", I", ", , I")
	wrong(t, m, ", , I", ", I")
}

func TestMaxStackAndOneMore(t *testing.T) {
	high := strings.Repeat("N ", api.MaxStack)
	nulls, line := many(api.MaxStack, in(api.OpNull)), ""
	for n := range api.MaxStack + 1 {
		line += strings.Repeat("N ", n) + ","
	}
	line = strings.TrimSuffix(line, ",")
	right(t, prog(nulls, in(api.OpJump, api.MaxStack)), line)
	right(t, prog(nulls, api.OpPop, back()), line+", "+high[2:]+", "+high[2:]+" I")
	wrong(t, prog(nulls, api.OpNull, api.OpPop, api.OpPop, back()), line+", N "+high+", "+high+", "+high[2:]+", "+high[2:]+" I")
	wrong(t, prog(nulls, api.OpNull, in(api.OpJump, api.MaxStack+1)), line+", N "+high)
	wrong(t, prog(nulls, back()), line+", I "+high)
}

// Where nobody comes to, Flow alone would not always tell: OpRet and others take one away.
func TestMaxStackAndOneMoreWhereNobodyComesTo(t *testing.T) {
	eight := strings.Repeat("I ", api.MaxStack)
	for _, island := range [][]api.Instr{code(api.OpRet), code(api.OpPop, in(api.OpJump, 3)), code(api.OpAdd, in(api.OpJump, 3)), code(in(api.OpZero, 3), in(api.OpJump, 3))} {
		m := prog(back(), island, back())
		rest := strings.Repeat(", -", len(island)+1)
		if len(island) == 1 {
			right(t, m, ", I, "+eight+rest)
			right(t, m, ", I, I"+rest)
		} else {
			right(t, m, ", I, "+eight+", "+eight[2:]+rest[3:])
		}
		right(t, m, ", I, - "+eight+rest)
		wrong(t, m, ", I, I "+eight+rest)
		wrong(t, m, ", I, I "+eight+", "+eight+rest[3:])
		wrong(t, m, ", I, - I "+eight+rest)
		wrong(t, m, ", I, -"+rest[:len(rest)-1]+"- I "+eight) // at the last one
		wrong(t, m, ", I, - "+strings.Repeat("X ", 100)+rest)
		second := with(prog(back()), api.Func{Ret: number, Code: m.Funcs[0].Code})
		right(t, second, ", I", ", I, - "+eight+rest)
		wrong(t, second, ", I", ", I, - I "+eight+rest)
		wrong(t, second, ", I", ", I, I "+eight+rest)
	}
}

func TestTheFirstInstructionIsSeen(t *testing.T) {
	right(t, prog(back()), ", I")
	wrong(t, prog(back()), "-, -")
	wrong(t, prog(back()), "-, I")
	wrong(t, prog(back()), "- I, I I")
	wrong(t, prog(in(api.OpJump, 0)), "-")
	wrong(t, prog(in(api.OpJump, 1), in(api.OpJump, 1)), "-, ")
	for count := 2; count <= api.MaxFuncs; count++ {
		for n := range count {
			m, lines := maker(count, 2)
			right(t, m, lines...)
			lines[n] = "-, -"
			wrong(t, m, lines...)
			lines[n] = "-, I"
			wrong(t, m, lines...)
		}
	}
}

// Each of these would hold, were it not the first one.
func TestTheFirstInstructionIsSeenWithNothing(t *testing.T) {
	for _, x := range []string{"I", "B", "L", "R", "R1", "H", "N", "A", "X", "Q", "X5"} {
		wrong(t, prog(back()), x+", "+x+" I")
		wrong(t, prog(in(api.OpJump, 0)), x)
		wrong(t, prog(api.OpInt, in(api.OpZero, 0), back()), x+", "+x+" I, "+x+", "+x+" I")
		m := with(prog(back()), api.Func{Args: []api.Type{number}, Ret: number, Code: back()})
		right(t, m, ", I", ", I")
		wrong(t, m, ", I", x+", "+x+" I")
		wrong(t, m, x+", "+x+" I", ", I")
	}
	wrong(t, prog(api.OpRet), "I") // what it would need
	wrong(t, with(prog(back()), api.Func{Args: []api.Type{number}, Ret: number, Code: code(api.OpRet)}), ", I", "I")
	for n := 1; n <= api.MaxStack; n++ {
		wrong(t, prog(in(api.OpJump, 0)), strings.Repeat("N ", n))
	}
}
