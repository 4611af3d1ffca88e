package ledger

import (
	"testing"

	"pipewright/api"
)

// P15.3: of an end that a task has, or that lies in a channel: it was there.
func TestGone(t *testing.T) {
	for _, home := range homes {
		for _, send := range []bool{true, false} {
			g := with(t, api.End{Chan: 6, Send: send, Home: home})
			goes(t, g, 0, true)
			holds(t, g, api.End{Chan: 6, Send: send, Home: api.HomeDropped, Drops: 1})
			of(t, g, home)
			of(t, g, api.HomeDropped, 0)
		}
	}
}

// P15.3: once more: it was not there; Drops is one more each time.
func TestGoneAgain(t *testing.T) {
	for _, home := range homes {
		g := with(t, api.End{Chan: 6, Send: true, Home: home})
		goes(t, g, 0, true)
		for n := range 20 {
			goes(t, g, 0, false)
			holds(t, g, api.End{Chan: 6, Send: true, Home: api.HomeDropped, Drops: n + 2})
		}
		moves(t, g, 0, home, false)
		goes(t, g, 0, false)
		holds(t, g, api.End{Chan: 6, Send: true, Home: api.HomeDropped, Drops: 22})
	}
}

// P15.3: of one that was moved, it goes where it is now.
func TestGoneWhereItIs(t *testing.T) {
	for _, home := range homes {
		g := with(t, api.End{Chan: 1, Home: 3})
		moves(t, g, 0, home, true)
		goes(t, g, 0, true)
		goes(t, g, 0, false)
		holds(t, g, api.End{Chan: 1, Home: api.HomeDropped, Drops: 2})
	}
}

// P15.3: that end alone goes.
func TestGoneOne(t *testing.T) {
	all, want := some(t)
	for e := range want {
		g, changed := some(t)
		goes(t, g, e, want[e].Home != api.HomeDropped)
		changed[e].Home = api.HomeDropped
		changed[e].Drops++
		holds(t, g, changed...)
	}
	holds(t, all, want...)
}

// P15.3: of an end that there is not: false, and nothing changes.
func TestGoneOfNone(t *testing.T) {
	g := New()
	for _, e := range noEnds(g) {
		goes(t, g, e, false)
	}
	holds(t, g)
	born(t, g, 1, true, 0, 0)
	holds(t, g, api.End{Chan: 1, Send: true})
	g, want := some(t)
	for range 3 {
		for _, e := range noEnds(g) {
			goes(t, g, e, false)
		}
		holds(t, g, want...)
	}
}
