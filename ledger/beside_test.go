package ledger

import (
	"math/rand"
	"testing"

	"pipewright/api"
)

// P15: ledgers know nothing of each other.
func TestBeside(t *testing.T) {
	a, b := New(), New()
	born(t, a, 1, true, 0, 0)
	holds(t, b)
	hasNone(t, b, 0)
	use(t, b, 0, 0, Through, api.EventNone)
	born(t, b, 2, false, 4, 0)
	born(t, b, 2, true, 4, 1)
	born(t, a, 1, false, 0, 1)
	goes(t, a, 0, true)
	moves(t, b, 1, 0, true)
	holds(t, a, api.End{Chan: 1, Send: true, Home: api.HomeDropped, Drops: 1}, api.End{Chan: 1})
	holds(t, b, api.End{Chan: 2, Home: 4}, api.End{Chan: 2, Send: true})
	of(t, a, 0, 1)
	of(t, b, 0, 1)
	of(t, b, api.HomeDropped)
	goes(t, b, 0, true)
	goes(t, b, 2, false)
	use(t, a, 0, 0, Drops, api.EventTwice)
	use(t, a, 1, 0, Drops, 0)
}

// P15: many ledgers in turn, as draws will have it, each held against a plain
// list of its own.
func TestManyBeside(t *testing.T) {
	r := rand.New(rand.NewSource(3))
	var list []*twin
	for range 12 {
		list = append(list, newTwin())
	}
	for n := range 6000 {
		list[r.Intn(len(list))].do(t, r)
		if n%100 > 0 {
			continue
		}
		for _, w := range list {
			w.alike(t)
		}
	}
}
