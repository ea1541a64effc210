package hans

import (
	"math"
	"testing"

	"chrysalis/api"
)

func TestTheChaptersExample(t *testing.T) {
	x := New(nil)
	opened(t, x, 1, 77, 0)
	closes(t, x, 0)
	stays(t, x, 0)
}

func TestOpenOneByOne(t *testing.T) {
	x, want := New(nil), []api.Handle{}
	holds(t, x, want)
	for n := range api.MaxHans {
		kind, desc := n%api.MaxKinds, uint64(n)*1000
		opened(t, x, kind, desc, uint64(n))
		want = append(want, api.Handle{Kind: kind, Desc: desc, Open: true})
		holds(t, x, want)
	}
	full(t, x, 0, 0)
	full(t, x, 3, top)
}

// Behind however many there are, open or closed.
func TestOpenBehindOthers(t *testing.T) {
	for there := range api.MaxHans {
		for _, open := range []bool{false, true} {
			x := New(many(there, open))
			holds(t, x, many(there, open))
			opened(t, x, 2, 55, uint64(there))
			holds(t, x, append(many(there, open), api.Handle{Kind: 2, Desc: 55, Open: true}))
		}
	}
	x := New(some())
	opened(t, x, 1, 5, 10) // as one that is there already
	opened(t, x, 2, 6, 11)
	holds(t, x, append(some(), api.Handle{Kind: 1, Desc: 5, Open: true}, api.Handle{Kind: 2, Desc: 6, Open: true}))
}

// Kinds and Descs are whatever they are.
func TestOpenOfAnything(t *testing.T) {
	for _, kind := range []int{math.MinInt, -1 << 32, -1, 0, 1, api.MaxKinds - 1, api.MaxKinds, 256, 1 << 32, math.MaxInt} {
		for _, desc := range []uint64{0, 1, 255, 256, 1 << 31, 1<<32 - 1, 1 << 32, 0x0123456789abcdef, 1<<63 - 1, 1 << 63, top} {
			x := New(nil)
			opened(t, x, kind, desc, 0)
			holds(t, x, []api.Handle{{Kind: kind, Desc: desc, Open: true}})
			closes(t, x, 0)
			holds(t, x, []api.Handle{{Kind: kind, Desc: desc}})
		}
	}
}

// A closed one takes as much room as an open one, and its number is not given again.
func TestCloseMakesNoRoom(t *testing.T) {
	x, want := New(nil), []api.Handle{}
	for n := range uint64(api.MaxHans) {
		opened(t, x, 1, 40+n, n)
		closes(t, x, n)
		want = append(want, api.Handle{Kind: 1, Desc: 40 + n})
		holds(t, x, want)
	}
	full(t, x, 1, 40)
	full(t, New(many(api.MaxHans, false)), 0, 0)
	x = New(many(api.MaxHans, true))
	for n := range uint64(api.MaxHans) {
		full(t, x, 0, 0)
		closes(t, x, n)
	}
	full(t, x, 0, 0)
}

// Those that New is given are all there, even if there are more than there may be.
func TestMoreThanMaxHans(t *testing.T) {
	for _, there := range []int{api.MaxHans, api.MaxHans + 1, 3 * api.MaxHans, 1000} {
		for _, open := range []bool{false, true} {
			x := New(many(there, open))
			holds(t, x, many(there, open))
			full(t, x, 0, 0)
		}
		x, want := New(many(there, true)), many(there, true)
		closes(t, x, uint64(there)-1)
		stays(t, x, uint64(there)-1)
		stays(t, x, uint64(there))
		full(t, x, 0, 0)
		want[there-1].Open = false
		holds(t, x, want)
	}
}

func TestUse(t *testing.T) {
	x := New(some())
	for range 3 { // as often as anybody likes
		for n, h := range some() {
			if h.Open {
				isOpen(t, x, uint64(n), h.Desc)
			} else {
				isClosed(t, x, uint64(n))
			}
		}
	}
	holds(t, x, some())
}

func TestCloseIsOneAlone(t *testing.T) {
	for n, h := range some() {
		x, want := New(some()), some()
		if !h.Open {
			stays(t, x, uint64(n))
			continue
		}
		closes(t, x, uint64(n))
		want[n].Open = false // of which kind it is, and its Desc, stay
		holds(t, x, want)
		stays(t, x, uint64(n))
		opened(t, x, h.Kind, h.Desc, uint64(len(want)))
		isClosed(t, x, uint64(n))
		stays(t, x, uint64(n))
		closes(t, x, uint64(len(want)))
		holds(t, x, append(want, api.Handle{Kind: h.Kind, Desc: h.Desc}))
	}
}

// In whichever order, each is closed once.
func TestCloseAll(t *testing.T) {
	for _, stride := range []int{1, 3, 5, 7, 15} {
		x, want := New(nil), many(api.MaxHans, true)
		for n, h := range want {
			opened(t, x, h.Kind, h.Desc, uint64(n))
		}
		for i := range want {
			n := (i*stride + 2) % len(want)
			closes(t, x, uint64(n))
			want[n].Open = false
			holds(t, x, want)
			stays(t, x, uint64(n))
		}
		holds(t, x, many(api.MaxHans, false))
	}
}

func TestNoSuchHandle(t *testing.T) {
	for _, list := range [][]api.Handle{nil, some()[:1], some(), many(api.MaxHans-1, true), many(api.MaxHans, true), many(20, true)} {
		for _, n := range noNumbers(uint64(len(list))) {
			x := New(list)
			isClosed(t, x, n)
			stays(t, x, n)
			holds(t, x, list)
		}
	}
	x := New(wide(some())) // what stands in spare room is no handle
	for n := uint64(len(some())); n < 20; n++ {
		isClosed(t, x, n)
		stays(t, x, n)
	}
	for n := range uint64(api.MaxHans) { // nor is the next one, up to when it is opened
		x = New(many(int(n), true))
		isClosed(t, x, n)
		stays(t, x, n)
		opened(t, x, 0, 8, n)
		isOpen(t, x, n, 8)
		closes(t, x, n)
	}
}

func TestNoTable(t *testing.T) {
	var x *Table
	for range 3 {
		for _, kind := range []int{math.MinInt, 0, 1, math.MaxInt} {
			full(t, x, kind, 5)
		}
		for _, n := range noNumbers(0) {
			isClosed(t, x, n)
			stays(t, x, n)
		}
		holds(t, x, nil)
	}
}

// One that New did not make is one without handles.
func TestZeroTable(t *testing.T) {
	x := &Table{}
	isClosed(t, x, 0)
	stays(t, x, 0)
	holds(t, x, nil)
	for n := range uint64(api.MaxHans) {
		opened(t, x, 1, n, n)
	}
	full(t, x, 1, 0)
}

// The chapter as it stands, over one list with all that was done to it.
func TestAsReadAgain(t *testing.T) {
	next := shaker()
	for range 500 {
		list := some()[:next(11)]
		x := New(list)
		for range 60 {
			n := uint64(next(20))
			there := n < uint64(len(list)) && list[n].Open
			switch next(3) {
			case 0:
				kind, desc := next(6)-1, uint64(next(1000))
				if len(list) == api.MaxHans {
					full(t, x, kind, desc)
					continue
				}
				opened(t, x, kind, desc, uint64(len(list)))
				list = append(list, api.Handle{Kind: kind, Desc: desc, Open: true})
			case 1:
				if !there {
					stays(t, x, n)
					continue
				}
				closes(t, x, n)
				list[n].Open = false
			case 2:
				if there {
					isOpen(t, x, n, list[n].Desc)
				} else {
					isClosed(t, x, n)
				}
			}
			holds(t, x, list)
		}
	}
}
