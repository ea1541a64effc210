package judge

import (
	"fmt"
	"math"
	"slices"
	"strings"
	"testing"

	"chrysalis/api"
	"chrysalis/verify"
)

// sample: a program, and Shapes to be asked of it.
type sample struct {
	m    api.Module
	maps [][]api.Shape
	want bool
}

// samples: some that are Right, and some that are not.
func samples() []sample {
	var out []sample
	for n, m := range programs() {
		maps, _, _, _ := verify.Check(m)
		spoilt := copied(maps, 0)
		last := spoilt[len(spoilt)-1]
		switch n % 3 {
		case 0:
			spoilt[len(spoilt)-1] = last[:len(last)-1]
		case 1:
			last[len(last)-1].Stack = many(api.MaxStack+1, none)
		case 2:
			spoilt = spoilt[1:]
		}
		out = append(out, sample{m, maps, true}, sample{m, spoilt, false}, sample{m, nil, false})
	}
	island := prog(back(), api.OpPop, in(api.OpJump, 3))
	out = append(out, sample{island, all([]string{", I, Q5 X9, Q5"}), true}, sample{island, all([]string{", I, - Q7 Q8, "}), true}, sample{island, all([]string{", I, X9 Q5, Q5"}), false})
	noMain := prog(back())
	noMain.Funcs[0].Ret = any0
	return append(out, sample{noMain, all([]string{", I"}), false}, sample{})
}

// dump: all of these, their lists' spare room included, as a text.
func dump(m api.Module, maps [][]api.Shape) string {
	var b strings.Builder
	for _, fields := range m.Recs[:cap(m.Recs)] {
		fmt.Fprintln(&b, len(fields), fields[:cap(fields)])
	}
	for _, f := range m.Funcs[:cap(m.Funcs)] {
		fmt.Fprintln(&b, len(f.Args), f.Args[:cap(f.Args)], f.Ret, len(f.Locals), f.Locals[:cap(f.Locals)], len(f.Code), f.Code[:cap(f.Code)])
	}
	for _, i := range m.Imports[:cap(m.Imports)] {
		fmt.Fprintln(&b, len(i.Args), i.Args[:cap(i.Args)], i.Ret)
	}
	fmt.Fprintln(&b, len(m.Recs), len(m.Funcs), len(m.Imports), len(m.Ints), m.Ints[:cap(m.Ints)], len(m.Texts))
	fmt.Fprintf(&b, "%q\n", m.Texts[:cap(m.Texts)])
	for _, list := range maps[:cap(maps)] {
		fmt.Fprintln(&b, len(maps), len(list))
		for _, s := range list[:cap(list)] {
			fmt.Fprintln(&b, s.Seen, len(s.Stack), s.Stack[:cap(s.Stack)])
		}
	}
	return b.String()
}

func TestWhatIsHandedInStays(t *testing.T) {
	for _, s := range samples() {
		m, maps := again(s.m, 3), copied(s.maps, 3)
		before := dump(m, maps)
		for range 2 {
			if Right(m, maps) != s.want {
				t.Errorf("not %v: %s", s.want, before)
			}
			if got := dump(m, maps); got != before {
				t.Errorf("changed: %s, not %s", got, before)
			}
		}
	}
	for _, words := range [][2]string{{"", ""}, {"I B", "X A"}, {"X A", "I B"}, {"N", "N N"}} {
		a, b := trim(types(words[0]), 3, odd), trim(types(words[1]), 3, none)
		before := fmt.Sprint(a[:cap(a)], b[:cap(b)])
		Below(a, b)
		if got := fmt.Sprint(a[:cap(a)], b[:cap(b)]); got != before {
			t.Errorf("changed: %s, not %s", got, before)
		}
	}
}

func TestSpareRoomIsNotAsked(t *testing.T) {
	for _, s := range samples() {
		for n := range 4 {
			if Right(again(s.m, n), copied(s.maps, n)) != s.want {
				t.Errorf("not %v, with room for %d: %s", s.want, n, dump(s.m, s.maps))
			}
		}
	}
	m := with(prog(back()), api.Func{Ret: number, Code: back()})
	maps := all([]string{", I", ", I"})
	answers(t, false, m, maps[:1]) // the other one stands in the room behind
	answers(t, false, m, [][]api.Shape{maps[0][:1], maps[1]})
	answers(t, false, m, [][]api.Shape{maps[0], maps[1][:1]})
	maps[1][1].Stack = maps[1][1].Stack[:0]
	answers(t, false, m, maps)
	m.Funcs = m.Funcs[:1]
	answers(t, true, m, maps[:1])
	if Below(types("I B")[:1], types("I B")) || Below(types("I B"), types("I B")[:1]) || !Below(types("I B")[:1], types("I L")[:1]) {
		t.Error("Below asks the spare room")
	}
}

func TestTheSameAgain(t *testing.T) {
	for range 3 {
		list := samples()
		for _, s := range list {
			answers(t, s.want, s.m, s.maps)
		}
		slices.Reverse(list)
		for _, s := range list { // whatever was asked between
			answers(t, s.want, s.m, s.maps)
		}
	}
}

// What was handed in is not kept: once it is changed, it is as it is then.
func TestNothingIsKept(t *testing.T) {
	m, maps := prog(api.OpText, api.OpLenB, api.OpRet), all([]string{", B, I"})
	for range 2 {
		answers(t, true, m, maps)
		maps[0][1].Stack[0] = list
		answers(t, false, m, maps)
		maps[0][1].Stack[0] = text
		m.Funcs[0].Code[1] = in(api.OpLen)
		answers(t, false, m, maps)
		m.Funcs[0].Code[1] = in(api.OpLenB)
		maps[0][2].Seen = false
		answers(t, false, m, maps)
		maps[0][2].Seen = true
		m.Ints = nil
		answers(t, true, m, maps)
		m.Texts = nil
		answers(t, false, m, maps)
		m.Texts = []string{""}
	}
}

// Lists that are one and the same memory are as good as others.
func TestListsThatShareMemory(t *testing.T) {
	m := with(prog(api.OpText, in(api.OpJump, 2), in(api.OpJump, 1)), api.Func{Ret: number, Code: code(api.OpText, in(api.OpJump, 2), in(api.OpJump, 1))})
	stack := types("B")
	list := []api.Shape{{Seen: true, Stack: stack[:0]}, {Seen: true, Stack: stack}, {Seen: true, Stack: stack}}
	answers(t, true, m, [][]api.Shape{list, list})
	stack[0] = number
	answers(t, false, m, [][]api.Shape{list, list})
}

func TestNilAndEmptyLists(t *testing.T) {
	full := api.Module{Recs: [][]api.Type{}, Imports: []api.Import{}, Ints: []uint64{0}, Texts: []string{}}
	full.Funcs = []api.Func{{Args: []api.Type{}, Ret: number, Locals: []api.Type{}, Code: back()}}
	bare := api.Module{Funcs: []api.Func{{Ret: number, Code: back()}}, Ints: []uint64{0}}
	for _, m := range []api.Module{full, bare} {
		answers(t, true, m, [][]api.Shape{{{Seen: true}, {Seen: true, Stack: types("I")}}})
		answers(t, true, m, [][]api.Shape{{{Seen: true, Stack: []api.Type{}}, {Seen: true, Stack: types("I")}}})
		for _, maps := range [][][]api.Shape{nil, {}, {nil}, {{}}, {nil, nil}} {
			answers(t, false, m, maps)
		}
	}
	for _, m := range []api.Module{{}, {Funcs: []api.Func{}}, {Funcs: []api.Func{{}}}, {Funcs: []api.Func{{Ret: number, Code: []api.Instr{}}}}} {
		for _, maps := range [][][]api.Shape{nil, {}, {nil}, {{}}, {{{}}}, {{{Seen: true}}}} {
			answers(t, false, m, maps)
		}
	}
}

// Whatever is handed in, there is an answer.
func TestAnythingHasAnAnswer(t *testing.T) {
	numbers := []int{math.MinInt, -1, 0, 1, 255, 256, math.MaxInt}
	for _, op := range append(numbers, api.OpGet, api.OpJump, api.OpCall, api.OpField, api.OpZero) {
		for _, a := range numbers {
			for _, b := range numbers {
				m := prog(back())
				m.Funcs[0].Code[0] = in(op, a, b)
				Right(m, all([]string{", I"}))
				m.Funcs[0].Ret, m.Recs[0][0] = api.Type{Kind: a, N: b}, api.Type{Kind: op, N: a}
				answers(t, false, m, [][]api.Shape{{{Seen: true}, {Seen: true, Stack: []api.Type{{Kind: a, N: b}}}}})
			}
		}
	}
	m := prog(back())
	answers(t, false, m, make([][]api.Shape, 1<<20))
	answers(t, false, m, [][]api.Shape{make([]api.Shape, 1<<20)})
	answers(t, false, m, [][]api.Shape{many(1<<20, api.Shape{Seen: true})})
	answers(t, false, m, [][]api.Shape{{{Seen: true, Stack: make([]api.Type, 1<<20)}, {Seen: true, Stack: types("I")}}})
	answers(t, false, m, [][]api.Shape{{{Seen: true}, {Stack: many(1<<20, number)}}})
	m.Funcs[0].Code = make([]api.Instr, 1<<20)
	answers(t, false, m, [][]api.Shape{many(1<<20, api.Shape{Seen: true})})
	m.Funcs = make([]api.Func, 1<<20)
	answers(t, false, m, make([][]api.Shape, 1<<20))
}
