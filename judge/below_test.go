package judge

import (
	"math"
	"testing"

	"chrysalis/api"
)

// The words of chapter 4 once more: may what is of a stand where b is asked for?
func stands(a, b api.Type) bool {
	refs := map[int]bool{api.Bytes: true, api.Ints: true, api.Rec: true, api.Null: true, api.Any: true}
	switch {
	case a.Kind == b.Kind && a.N == b.N, b.Kind == api.None:
		return true
	case b.Kind == api.Any, a.Kind == api.Null:
		return refs[a.Kind] && refs[b.Kind]
	}
	return false
}

// standsAll: Below once more.
func standsAll(a, b []api.Type) bool {
	if len(a) != len(b) {
		return false
	}
	for k := len(a) - 1; k >= 0; k-- {
		if !stands(a[k], b[k]) {
			return false
		}
	}
	return true
}

// below: that Below of these words is as told.
func below(t *testing.T, a, b string, want bool) {
	t.Helper()
	if got := Below(types(a), types(b)); got != want {
		t.Errorf("Below(%s; %s): %v", a, b, got)
	}
}

func TestBelowAsMany(t *testing.T) {
	below(t, "", "", true)
	below(t, "", "I", false)
	below(t, "I", "", false)
	below(t, "", "X", false)
	below(t, "N", "", false)
	below(t, "I", "I", true)
	below(t, "I", "I I", false)
	below(t, "I I", "I", false)
	below(t, "I B", "I B X", false)
	below(t, "I B", "X I B", false) // the same tops
	below(t, "I B N", "I B", false)
	below(t, "N I B", "I B", false)
	below(t, "I B N", "I B N", true)
	for n := range 40 { // more than ever stand on a stack, too
		for other := range 40 {
			if got := Below(many(n, null), many(other, none)); got != (n == other) {
				t.Errorf("%d and %d: %v", n, other, got)
			}
		}
	}
}

func TestBelowNothing(t *testing.T) {
	lists := [][]api.Type{nil, {}, make([]api.Type, 0, 5), many(3, number)[:0]}
	for _, a := range lists {
		for _, b := range lists {
			if !Below(a, b) {
				t.Errorf("%v, %v", a == nil, b == nil)
			}
		}
		if Below(a, many(1, none)) || Below(many(1, null), a) {
			t.Error("nothing and one")
		}
	}
}

func TestBelowTheSame(t *testing.T) {
	for _, words := range []string{"I", "B", "L", "R", "R7", "H", "H3", "N", "A", "X", "Q", "Q5", "I1", "B-1", "R-1", "H4", "N2", "A2", "X2", "I B L R R1 H H2 N A X"} {
		below(t, words, words, true)
	}
	same := types("I B N X")
	if !Below(same, same) { // one list, handed in twice
		t.Error("one list")
	}
}

func TestBelowOfASubAndTheOtherWayRound(t *testing.T) {
	for _, pair := range [][2]string{
		{"N", "B"}, {"N", "L"}, {"N", "R"}, {"N", "R1"}, {"N", "A"}, {"B", "A"}, {"L", "A"}, {"R", "A"}, {"R7", "A"},
		{"I", "X"}, {"B", "X"}, {"L", "X"}, {"R", "X"}, {"H", "X"}, {"H3", "X"}, {"N", "X"}, {"A", "X"}, {"Q", "X"},
		{"N5", "B"}, {"N", "R99"}, {"B", "A5"}, {"I", "X5"}, {"I B N", "I A X"}, {"N I", "L I"},
	} {
		below(t, pair[0], pair[1], true)
		below(t, pair[1], pair[0], false)
	}
	for _, pair := range [][2]string{{"I", "B"}, {"I", "A"}, {"I", "N"}, {"I", "H"}, {"B", "L"}, {"R", "R1"}, {"H", "H1"}, {"H", "N"}, {"H", "A"}, {"R", "B"}, {"I", "I1"}, {"Q", "A"}, {"Q", "Q1"}} {
		below(t, pair[0], pair[1], false)
		below(t, pair[1], pair[0], false)
	}
	below(t, "N B", "B N", false) // one place would do, the other would not
	below(t, "B N", "N B", false)
}

// Each place is asked, the first and the last among them.
func TestBelowAtEachPlace(t *testing.T) {
	for n := 1; n <= api.MaxStack+4; n++ {
		for place := range n {
			for _, x := range []struct {
				rest, a, b string
				want       bool
			}{{"I", "B", "L", false}, {"B", "N", "B", true}, {"B", "B", "N", false}, {"N", "I", "X", true}, {"X", "X", "I", false}, {"A", "R", "A", true}, {"A", "A", "R", false}, {"R", "R", "R1", false}, {"I", "H", "H1", false}} {
				a, b := many(n, typed(x.rest)), many(n, typed(x.rest))
				a[place], b[place] = typed(x.a), typed(x.b)
				if got := Below(a, b); got != x.want {
					t.Errorf("%v, %v: %v", a, b, got)
				}
			}
		}
	}
}

// pool: types of each kind, with numbers that no module can name among them.
func pool() []api.Type {
	out := types("I B L R R1 R-1 H H1 H9 N N1 A A1 X X1 Q I1 B1")
	return append(out, api.Type{}, api.Type{Kind: -1}, api.Type{Kind: math.MaxInt, N: math.MinInt}, api.Type{Kind: math.MinInt, N: math.MaxInt}, api.Type{Kind: api.Rec, N: math.MaxInt})
}

// lists: all lists of at most two of these.
func lists(of []api.Type) [][]api.Type {
	out := [][]api.Type{nil}
	for _, x := range of {
		out = append(out, []api.Type{x})
		for _, y := range of {
			out = append(out, []api.Type{x, y})
		}
	}
	return out
}

func TestBelowOfAllShortLists(t *testing.T) {
	count := 0
	all := lists(pool())
	for _, a := range all {
		for _, b := range all {
			got := Below(a, b)
			if got != standsAll(a, b) {
				t.Fatalf("Below(%v, %v): %v", a, b, got)
			}
			if got {
				count++
			}
		}
	}
	if count < len(all)*5 {
		t.Errorf("too few are below: %d of %d lists", count, len(all))
	}
}

// It goes on from one to the next: a below b, and b below c, is a below c.
func TestBelowGoesOn(t *testing.T) {
	all, count := lists(types("I B R R1 H N N1 A A1 X X1")), 0
	for _, a := range all {
		for _, b := range all {
			if !Below(a, b) {
				continue
			}
			for _, c := range all {
				if Below(b, c) {
					count++
					if !Below(a, c) {
						t.Fatalf("%v below %v below %v", a, b, c)
					}
				}
			}
		}
	}
	if count < 5000 {
		t.Errorf("too few go on: %d", count)
	}
}

func TestBelowOfLongLists(t *testing.T) {
	a, b := many(1<<20, null), many(1<<20, text)
	if !Below(a, b) || Below(b, a) || Below(a[1:], b) || Below(a, b[1:]) {
		t.Error("long lists")
	}
	a[len(a)-1] = number
	if Below(a, b) {
		t.Error("the last of a long list")
	}
}
