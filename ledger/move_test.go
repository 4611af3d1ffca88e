package ledger

import (
	"testing"

	"pipewright/api"
)

// P15.2: from each home to each other one, to the same one and to HomeRing.
func TestMove(t *testing.T) {
	for _, from := range homes {
		for _, to := range homes {
			for _, send := range []bool{true, false} {
				g := with(t, api.End{Chan: 4, Send: send, Home: from})
				moves(t, g, 0, to, true)
				holds(t, g, api.End{Chan: 4, Send: send, Home: to})
				moves(t, g, 0, from, true)
				holds(t, g, api.End{Chan: 4, Send: send, Home: from})
			}
		}
	}
}

// P15.2: that end alone has another home now.
func TestMoveOne(t *testing.T) {
	for _, home := range homes {
		for _, e := range l(0, 1, 4, 5) {
			g, want := some(t)
			moves(t, g, e, home, true)
			want[e].Home = home
			holds(t, g, want...)
		}
	}
}

// P15.2: an end wanders, and is used where it is alone.
func TestMoveOn(t *testing.T) {
	g := with(t, api.End{Chan: 1, Send: true, Home: 0}, api.End{Chan: 1, Home: 0})
	moves(t, g, 0, api.HomeRing, true)
	of(t, g, 0, 1)
	of(t, g, api.HomeRing, 0)
	use(t, g, 0, 0, Through, api.EventMoved)
	moves(t, g, 0, 3, true)
	of(t, g, api.HomeRing)
	of(t, g, 3, 0)
	use(t, g, 0, 3, Through, 0)
	moves(t, g, 0, 3, true)
	of(t, g, 3, 0)
}

// P15.2: of an end that there is not: false, and nothing changes.
func TestMoveOfNone(t *testing.T) {
	for _, home := range homes {
		moves(t, New(), 0, home, false)
		g, want := some(t)
		for _, e := range noEnds(g) {
			moves(t, g, e, home, false)
		}
		holds(t, g, want...)
	}
}

// P15.2: to a home below HomeRing: false, and nothing changes.
func TestMoveToNoHome(t *testing.T) {
	for _, home := range noHomes {
		g, want := some(t)
		for e := range want {
			moves(t, g, e, home, false)
		}
		for _, e := range noEnds(g) {
			moves(t, g, e, home, false)
		}
		holds(t, g, want...)
	}
}

// P15.2: of an end whose home is HomeDropped: false, and nothing changes.
func TestMoveOfDropped(t *testing.T) {
	for _, home := range homes {
		g, want := some(t)
		moves(t, g, 2, home, false)
		moves(t, g, 3, home, false)
		holds(t, g, want...)
		goes(t, g, 4, true)
		moves(t, g, 4, home, false)
		want[4].Home, want[4].Drops = api.HomeDropped, 1
		holds(t, g, want...)
	}
}
