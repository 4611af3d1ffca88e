package ledger

import (
	"testing"

	"pipewright/api"
)

// P1: many ends: each call still ends, and numbers go on.
func TestManyEnds(t *testing.T) {
	const n = 1 << 20
	g := New()
	inTime(t, "many ends", func() {
		for e := range n {
			born(t, g, e/2, e%2 == 0, e%4-1, e)
		}
		for e := range n {
			if e%3 == 0 {
				goes(t, g, e, true)
			} else {
				moves(t, g, e, 5, true)
			}
		}
	})
	if got := len(g.Of(5)); got != n-(n+2)/3 {
		t.Errorf("Of(5): %d ends", got)
	}
	if got := len(g.Of(api.HomeDropped)); got != (n+2)/3 {
		t.Errorf("Of(HomeDropped): %d ends", got)
	}
	of(t, g, 0)
	for e, end := range g.All() {
		want := api.End{Chan: e / 2, Send: e%2 == 0, Home: 5}
		if e%3 == 0 {
			want.Home, want.Drops = api.HomeDropped, 1
		}
		if end != want {
			t.Fatalf("the end %d: %v, want %v", e, end, want)
		}
	}
	hasNone(t, g, n, -1)
}

// P15.3: one end that is dropped very often.
func TestManyDrops(t *testing.T) {
	const n = 1 << 20
	g := with(t, api.End{Chan: 1, Home: 1})
	goes(t, g, 0, true)
	for range n - 1 {
		goes(t, g, 0, false)
	}
	holds(t, g, api.End{Chan: 1, Home: api.HomeDropped, Drops: n})
}

// P15.2: one end that wanders for long.
func TestManyMoves(t *testing.T) {
	const n = 1 << 20
	g := with(t, api.End{Chan: 1, Home: 1}, api.End{Chan: 1, Send: true, Home: 1})
	for home := range n {
		moves(t, g, 1, home, true)
	}
	holds(t, g, api.End{Chan: 1, Home: 1}, api.End{Chan: 1, Send: true, Home: n - 1})
}
