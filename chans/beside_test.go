package chans

import (
	"math/rand"
	"testing"

	"pipewright/api"
)

// P16: stores know nothing of each other.
func TestBeside(t *testing.T) {
	a, b := New(), New()
	makes(t, a, 1, 0, 0, 1)
	holds(t, b, state{})
	waits(t, b, 1, false)
	puts(t, b, 0, num(1), false)
	drops(t, b, 0, false)
	makes(t, b, 2, 4, 0, 1)
	puts(t, a, 0, num(5), true)
	waits(t, b, 0, false)
	clones(t, b, 0, 0, 2)
	drops(t, a, 1, true)
	puts(t, b, 0, end(2), true)
	holds(t, a, state{[]api.End{send(0, 0), went(recv(0, 0), 1)}, []api.Chan{{Slots: 1, Senders: 1, Gone: true}}})
	holds(t, b, state{[]api.End{send(0, 4), recv(0, 4), send(0, api.HomeRing)}, []api.Chan{{Slots: 2, Senders: 2, Items: items(end(2))}}})
}

// P16: many stores in turn, as draws will have it, each held against plain lists
// of its own.
func TestManyBeside(t *testing.T) {
	r := rand.New(rand.NewSource(3))
	var list []*twin
	for range 12 {
		list = append(list, newTwin())
	}
	for n := range 6000 {
		list[r.Intn(len(list))].do(t, r, 20)
		if n%100 > 0 {
			continue
		}
		for _, w := range list {
			w.alike(t)
		}
	}
}
