package flow

import (
	"math"
	"slices"
	"testing"

	"chrysalis/api"
)

func TestLocal(t *testing.T) {
	all := is(number, text, han(1), rec(2), list, any0, number, rec(0))
	for args := range len(all) + 1 { // a function that does not fit has them, too
		for n := range len(all) - args + 1 {
			f := api.Func{Args: trim(all[:args], 3, odd), Ret: list, Locals: trim(all[args:args+n], 3, odd)}
			for k := range args + n {
				if got := Local(f, k); got != all[k] {
					t.Errorf("Local of %d of %d and %d: %v", k, args, n, got)
				}
			}
			for _, k := range []int{-1, -2, -args, -args - n, args + n, args + n + 1, 99, math.MinInt, math.MinInt + args, math.MaxInt} {
				if k >= 0 && k < args+n {
					continue
				}
				if got := Local(f, k); got != none {
					t.Errorf("Local of %d of %d and %d: %v", k, args, n, got)
				}
			}
		}
	}
}

func TestLocalOfAnyFunction(t *testing.T) {
	for _, f := range []api.Func{{}, {Args: is(), Locals: is()}} {
		for _, n := range []int{math.MinInt, -1, 0, 1, math.MaxInt} {
			if Local(f, n) != none {
				t.Errorf("Local of %d of none: %v", n, Local(f, n))
			}
		}
	}
	far := api.Func{Args: many(300, odd), Locals: many(300, api.Type{Kind: -1, N: -1})} // types are told as they are
	if Local(far, 299) != odd || Local(far, 300) != (api.Type{Kind: -1, N: -1}) || Local(far, 599).Kind != -1 || Local(far, 600) != none {
		t.Error("Local of a function that does not fit")
	}
}

func TestLocalChangesNothing(t *testing.T) {
	args, locals := trim(is(number, text), 3, odd), trim(is(list), 3, odd)
	for n := -3; n < 9; n++ {
		Local(api.Func{Args: args, Locals: locals}, n)
	}
	if !slices.Equal(args[:5], is(number, text, odd, odd, odd)) || !slices.Equal(locals[:4], is(list, odd, odd, odd)) {
		t.Errorf("changed: %v, %v", args[:5], locals[:4])
	}
}
