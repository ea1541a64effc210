package run

import (
	"math"
	"slices"
	"testing"

	"chrysalis/api"
)

// deed: what one instruction of a puppet wants and tells.
type deed struct {
	wants bool
	told  []api.Event
}

// puppet goes on by a list of deeds: neither a stack nor registers.
type puppet struct {
	deeds []deed
	heard []uint64 // the answers of those that wanted one
	nexts int      // how often Next was called
}

func (p *puppet) Want() (int, bool) {
	if len(p.deeds) == 0 || !p.deeds[0].wants {
		return 0, false
	}
	return 3, true
}

func (p *puppet) Next(answer uint64) ([]api.Event, bool) {
	p.nexts++
	if len(p.deeds) == 0 {
		return nil, false
	}
	d := p.deeds[0]
	p.deeds = p.deeds[1:]
	if d.wants {
		p.heard = append(p.heard, answer)
	}
	return d.told, true
}

// deeds: some that want something or not, and tell nothing, one thing or many.
func deeds() []deed {
	return []deed{
		{}, {wants: true, told: []api.Event{event(1, 1)}}, {told: []api.Event{event(2), event(3, 5, 6), event(4)}}, {wants: true},
		{}, {wants: true, told: []api.Event{event(5), event(6)}}, {told: []api.Event{}}, {told: []api.Event{event(7, 8)}},
	}
}

// Whatever goes on is run alike: each deed told and counted, each answer heard once, by the one that wanted it.
func TestWhoever(t *testing.T) {
	for many := range 5 {
		for fuel := -1; fuel < 11; fuel++ {
			p := &puppet{deeds: deeds()}
			told, done, used := goOn(p, fuel, upFrom(40, many))
			most := min(max(fuel, 0), 8, []int{1, 3, 5, 8, 8}[many])
			var want []api.Event
			wanted := 0
			for _, d := range deeds()[:most] {
				want = append(want, d.told...)
				if d.wants {
					wanted++
				}
			}
			if done != most || used != wanted || !sameEvents(told, want) || !slices.Equal(p.heard, upFrom(40, wanted)) || len(p.deeds) != 8-most {
				t.Errorf("%d of fuel, %d answers: %v, %d, %d; heard %v", fuel, many, told, done, used, p.heard)
			}
		}
	}
}

// One that has ended is asked once, and no more.
func TestWhoeverHasEnded(t *testing.T) {
	p := &puppet{}
	if told, done, used := goOn(p, math.MaxInt, w(4, 5)); told != nil || done != 0 || used != 0 || p.nexts > 1 {
		t.Errorf("%v, %d, %d; asked %d times", told, done, used, p.nexts)
	}
}

// What is told is kept apart from the lists in which it came.
func TestWhoeverKeepsItsLists(t *testing.T) {
	first := make([]api.Event, 1, 9)
	first[0] = event(1)
	p := &puppet{deeds: []deed{{told: first}, {told: []api.Event{event(2), event(3)}}}}
	told, _, _ := goOn(p, 2, nil)
	if !sameEvents(told, []api.Event{event(1), event(2), event(3)}) || first[:2][1].Import != 0 {
		t.Errorf("%v; %v", told, first[:3])
	}
}
