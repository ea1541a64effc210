package hans

import (
	"slices"
	"testing"

	"chrysalis/api"
)

// closeAll: no handle that x has is open any more.
func closeAll(x *Table) {
	for n := range x.List() {
		x.Close(uint64(n))
	}
}

func TestWhatIsHandedInStays(t *testing.T) {
	list := wide(some())
	before := slices.Clone(list[:cap(list)])
	x := New(list)
	x.Open(1, 2)
	x.Open(3, 4)
	closeAll(x)
	if !slices.Equal(list[:cap(list)], before) {
		t.Errorf("changed: %v, not %v", list[:cap(list)], before)
	}
}

func TestWhatIsHandedInIsNotKept(t *testing.T) {
	list := wide(some())
	x := New(list)
	fill(list)
	holds(t, x, some())
	opened(t, x, 1, 2, 10)
	fill(list)
	holds(t, x, append(some(), api.Handle{Kind: 1, Desc: 2, Open: true}))
}

func TestWhatIsAnsweredIsNotKept(t *testing.T) {
	x := New(wide(some()))
	first := x.List()
	fill(x.List())
	holds(t, x, some())
	opened(t, x, 1, 2, 10)
	closeAll(x)
	if !slices.Equal(first, some()) {
		t.Errorf("an answer was changed: %v", first)
	}
	second, third := x.List(), x.List()
	fill(second)
	want := append(some(), api.Handle{Kind: 1, Desc: 2})
	for i := range want {
		want[i].Open = false
	}
	if !slices.Equal(third, want) {
		t.Errorf("an answer was changed by another one: %v", third)
	}
	holds(t, x, want)
}

// What is put behind an answer is not put behind the Table's own, and the other way round.
func TestRoomBehindAnAnswer(t *testing.T) {
	x := New(nil)
	for n := range uint64(api.MaxHans) {
		got := append(x.List(), api.Handle{Kind: 8, Desc: 800})
		opened(t, x, 1, n, n)
		if got[n] != (api.Handle{Kind: 8, Desc: 800}) {
			t.Errorf("behind an answer: %v", got[n])
		}
		got = append(x.List(), api.Handle{Kind: 9, Desc: 900, Open: true})
		fill(got)
		isOpen(t, x, n, n)
		isClosed(t, x, n+1)
	}
}

func TestTablesStandAlone(t *testing.T) {
	list := wide(some())
	a, b := New(list), New(list)
	opened(t, a, 1, 2, 10)
	closeAll(a)
	holds(t, b, some())
	opened(t, b, 3, 4, 10)
	holds(t, b, append(some(), api.Handle{Kind: 3, Desc: 4, Open: true}))
	isClosed(t, a, 10)
	holds(t, New(list), some())
	back := New(b.List()) // one that goes on from another's handles
	closeAll(back)
	opened(t, back, 0, 0, 11)
	holds(t, b, append(some(), api.Handle{Kind: 3, Desc: 4, Open: true}))
	holds(t, New(nil), nil)
}

func TestNilAndEmptyLists(t *testing.T) {
	for _, list := range [][]api.Handle{nil, {}, make([]api.Handle, 0, 5), wide(nil)} {
		x := New(list)
		if x == nil {
			t.Fatal("no Table")
		}
		holds(t, x, nil)
		opened(t, x, 1, 2, 0)
		holds(t, x, []api.Handle{{Kind: 1, Desc: 2, Open: true}})
	}
}

func TestTheSameAgain(t *testing.T) {
	do := func() ([]api.Handle, []uint64) {
		next := shaker()
		x := New(some()[:3])
		var out []uint64
		for range 300 {
			if next(8) == 0 {
				n, _ := x.Open(next(5), uint64(next(99)))
				out = append(out, n)
			}
			desc, end := x.Use(uint64(next(18)))
			out = append(out, desc, uint64(end))
			if next(9) == 0 {
				out = append(out, uint64(x.Close(uint64(next(18)))))
			}
		}
		return x.List(), out
	}
	list, numbers := do()
	again, others := do()
	if !slices.Equal(list, again) || !slices.Equal(numbers, others) {
		t.Error("another answer")
	}
}
