package ledger

import (
	"slices"
	"testing"

	"pipewright/api"
)

// P15: a new ledger has no ends.
func TestNew(t *testing.T) {
	g := New()
	holds(t, g)
	hasNone(t, g, noEnds(g)...)
	for _, home := range slices.Concat(homes, noHomes) {
		of(t, g, home)
	}
}

// P15.1: numbers from 0 on, one more each time, whatever the end is.
func TestBornCounts(t *testing.T) {
	g := New()
	next := 0
	for _, channel := range numbers {
		for _, home := range homes {
			for _, send := range []bool{true, false} {
				born(t, g, channel, send, home, next)
				next++
			}
		}
	}
}

// P15.1: the end is as it was said, and dropped never.
func TestBornKeeps(t *testing.T) {
	g := New()
	var want []api.End
	for _, channel := range numbers {
		for _, home := range homes {
			for _, send := range []bool{false, true} {
				g.Born(channel, send, home)
				want = append(want, api.End{Chan: channel, Send: send, Home: home, Drops: 0})
				holds(t, g, want...)
			}
		}
	}
}

// P15.1: ends that are alike are ends of their own.
func TestBornAlike(t *testing.T) {
	g := New()
	for e := range 4 {
		born(t, g, 1, true, 5, e)
	}
	goes(t, g, 2, true)
	moves(t, g, 1, 6, true)
	kept := api.End{Chan: 1, Send: true, Home: 5}
	holds(t, g, kept, api.End{Chan: 1, Send: true, Home: 6},
		api.End{Chan: 1, Send: true, Home: api.HomeDropped, Drops: 1}, kept)
}

// P15.1: a home below HomeRing is refused, and nothing changes: the next end has
// the number that this one would have had.
func TestBornRefused(t *testing.T) {
	for _, home := range noHomes {
		g := New()
		born(t, g, 3, true, home, -1)
		holds(t, g)
		of(t, g, home)
		born(t, g, 3, true, 0, 0)
		born(t, g, 3, false, home, -1)
		born(t, g, -1, false, home, -1)
		holds(t, g, api.End{Chan: 3, Send: true})
		born(t, g, 3, false, api.HomeRing, 1)
		holds(t, g, api.End{Chan: 3, Send: true}, api.End{Chan: 3, Home: api.HomeRing})
	}
	g, want := some(t)
	for _, home := range noHomes {
		for _, channel := range numbers {
			born(t, g, channel, true, home, -1)
			born(t, g, channel, false, home, -1)
		}
	}
	holds(t, g, want...)
}

// P15.1: what was dropped does not make room: its number is never another one's.
func TestBornBehindDropped(t *testing.T) {
	g := New()
	born(t, g, 1, true, 0, 0)
	goes(t, g, 0, true)
	born(t, g, 2, false, 0, 1)
	goes(t, g, 1, true)
	goes(t, g, 1, false)
	born(t, g, 3, true, 0, 2)
	holds(t, g, api.End{Chan: 1, Send: true, Home: api.HomeDropped, Drops: 1},
		api.End{Chan: 2, Home: api.HomeDropped, Drops: 2}, api.End{Chan: 3, Send: true})
}

// P15: End of ends that there are not.
func TestEndOfNone(t *testing.T) {
	g, want := some(t)
	for e, end := range want {
		if got, ok := g.End(e); !ok || got != end {
			t.Errorf("End(%d): %v %v, want %v", e, got, ok, end)
		}
	}
	hasNone(t, g, noEnds(g)...)
	g.Born(0, true, 0)
	if _, ok := g.End(len(want)); !ok {
		t.Errorf("the end that was born last is not there")
	}
	hasNone(t, g, noEnds(g)...)
}
