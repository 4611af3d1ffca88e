package ledger

import (
	"math"
	"testing"

	"pipewright/api"
)

// P15: Of tells the ends of each home, rising: of tasks, of HomeRing and of
// HomeDropped.
func TestOf(t *testing.T) {
	g, _ := some(t)
	of(t, g, 0, 0, 5)
	of(t, g, api.HomeRing, 1)
	of(t, g, api.HomeDropped, 2, 3)
	of(t, g, 2, 4)
}

// P15: of a home that no end has: nothing.
func TestOfNone(t *testing.T) {
	g, want := some(t)
	for _, home := range l(1, 3, 4, 1<<32, math.MaxInt, -3, -4, -1<<32, math.MinInt) {
		of(t, g, home)
	}
	holds(t, g, want...)
}

// P15: they rise, in whatever order they came to that home.
func TestOfRises(t *testing.T) {
	g := New()
	for range 8 {
		g.Born(0, true, 1)
	}
	for _, e := range l(5, 2, 7, 0) {
		moves(t, g, e, 9, true)
	}
	of(t, g, 9, 0, 2, 5, 7)
	of(t, g, 1, 1, 3, 4, 6)
	for _, e := range l(6, 5, 1) {
		goes(t, g, e, true)
	}
	of(t, g, api.HomeDropped, 1, 5, 6)
	for _, e := range l(7, 4, 3) {
		moves(t, g, e, api.HomeRing, true)
	}
	of(t, g, api.HomeRing, 3, 4, 7)
	of(t, g, 9, 0, 2)
	of(t, g, 1)
	moves(t, g, 4, 1, true)
	moves(t, g, 0, 1, true)
	of(t, g, 1, 0, 4)
}

// P15: an end that was dropped again and again is told once.
func TestOfDroppedOnce(t *testing.T) {
	g := with(t, api.End{Home: 0}, api.End{Home: 0})
	for range 5 {
		g.Gone(1)
	}
	of(t, g, api.HomeDropped, 1)
	of(t, g, 0, 0)
}

// P15: All tells all ends as End tells each one, also those that are dropped.
func TestAll(t *testing.T) {
	g := New()
	for n := range 30 {
		g.Born(n/2, n%2 == 0, n%5-1)
		if n%3 == 0 {
			g.Gone(n / 2)
		}
		if n%4 == 0 {
			g.Move(n/3, n)
		}
		all := g.All()
		if len(all) != n+1 {
			t.Fatalf("All of %d ends: %d", n+1, len(all))
		}
		for e, end := range all {
			if got, ok := g.End(e); !ok || got != end {
				t.Fatalf("All tells %v of the end %d, End %v %v", end, e, got, ok)
			}
		}
	}
}
