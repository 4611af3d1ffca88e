package ledger

import (
	"slices"
	"testing"

	"pipewright/api"
)

// scribble writes over a list, and over what lies behind it in its memory.
func scribble[T any](list []T, x T) {
	list = list[:cap(list)]
	for k := range list {
		list[k] = x
	}
	_ = append(list[:0], x)
}

var strange = api.End{Chan: -99, Send: true, Home: -99, Drops: -99}

// many is a ledger with n ends, some of them in channels and some dropped.
func many(n int) *Ledger {
	g := New()
	for e := range n {
		g.Born(e, e%2 == 0, e%4-1)
		if e%5 == 4 {
			g.Gone(e)
		}
	}
	return g
}

// What is answered is new memory: what is done to it does not change the ledger,
// nor another answer.
func TestAnswersAreScribbledOn(t *testing.T) {
	for n := range 40 {
		g := many(n)
		want := slices.Clone(g.All())
		all, once := g.All(), g.All()
		scribble(all, strange)
		if !slices.Equal(once, want) {
			t.Fatalf("two answers of All share memory: %v", once)
		}
		holds(t, g, want...)
		for home := api.HomeDropped; home < 4; home++ {
			list, again := g.Of(home), g.Of(home)
			scribble(list, -99)
			if !slices.Equal(again, living(want, home)) {
				t.Fatalf("two answers of Of share memory: %v", again)
			}
			scribble(again, -98)
			of(t, g, home, living(want, home)...)
		}
		holds(t, g, want...)
		born(t, g, 7, true, 0, n)
		want = append(want, api.End{Chan: 7, Send: true})
		holds(t, g, want...)
		scribble(once, strange)
		holds(t, g, want...)
	}
}

// And what is done to the ledger later does not change it.
func TestAnswersStay(t *testing.T) {
	for n := range 40 {
		g := many(n)
		want := slices.Clone(g.All())
		all := g.All()
		var lists [][]int
		for home := api.HomeDropped; home < 4; home++ {
			lists = append(lists, g.Of(home))
		}
		for e := range n {
			g.Move(e, 8)
			g.Gone(n - 1 - e)
			g.Born(e, true, e%3)
		}
		if !slices.Equal(all, want) {
			t.Fatalf("an answer of All changed: %v, was %v", all, want)
		}
		for k, list := range lists {
			if home := api.HomeDropped + k; !slices.Equal(list, living(want, home)) {
				t.Fatalf("an answer of Of(%d) changed: %v", home, list)
			}
		}
	}
}

// An end that was told is a value of its own, too.
func TestEndStays(t *testing.T) {
	g, want := some(t)
	end, _ := g.End(0)
	end.Home, end.Drops, end.Chan, end.Send = 7, 7, 7, false
	holds(t, g, want...)
	end, _ = g.End(0)
	g.Gone(0)
	if end != want[0] {
		t.Errorf("what End told changed: %v, was %v", end, want[0])
	}
}
