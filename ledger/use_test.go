package ledger

import (
	"math"
	"slices"
	"testing"

	"pipewright/api"
)

// others are what is none of Through and Drops.
var others = []int{Other, 0, 4, 5, -1, -2, 100, math.MaxInt, math.MinInt, 1 << 32, 1<<32 + 1, 1<<32 + 2}

// whats are all of them.
var whats = slices.Concat(l(Through, Drops), others)

// P15: the words of what is done.
func TestWords(t *testing.T) {
	if Through != 1 || Drops != 2 || Other != 3 {
		t.Errorf("Through %d, Drops %d, Other %d", Through, Drops, Other)
	}
}

// P15.4: there is no such end, whatever the task does.
func TestUseOfNone(t *testing.T) {
	full, want := some(t)
	for _, g := range []*Ledger{New(), full} {
		for _, e := range noEnds(g) {
			for _, task := range numbers {
				for _, what := range whats {
					use(t, g, e, task, what, api.EventNone)
				}
			}
		}
	}
	holds(t, full, want...)
}

// P15.4: of an end that was dropped, once or more often, whoever asks: the one
// that had it, another one, or a task of the number HomeDropped.
func TestUseOfDropped(t *testing.T) {
	for drops := 1; drops < 4; drops++ {
		for _, send := range []bool{true, false} {
			g := New()
			born(t, g, 1, send, 5, 0)
			for range drops {
				g.Gone(0)
			}
			for _, task := range numbers {
				use(t, g, 0, task, Through, api.EventSent)
				use(t, g, 0, task, Drops, api.EventTwice)
				for _, what := range others {
					use(t, g, 0, task, what, api.EventGone)
				}
			}
			holds(t, g, api.End{Chan: 1, Send: send, Home: api.HomeDropped, Drops: drops})
		}
	}
}

// P15.4: of an end whose home is not the task.
func TestUseOfOthers(t *testing.T) {
	for _, home := range homes {
		for _, send := range []bool{true, false} {
			g := with(t, api.End{Chan: 2, Send: send, Home: home})
			for _, task := range slices.Concat(numbers, homes, l(home-1, home+1)) {
				if task == home {
					continue
				}
				use(t, g, 0, task, Drops, api.EventOwner)
				use(t, g, 0, task, Through, api.EventMoved)
				for _, what := range others {
					use(t, g, 0, task, what, api.EventMoved)
				}
			}
			holds(t, g, api.End{Chan: 2, Send: send, Home: home})
		}
	}
}

// P15.4: nothing is wrong, where the home is the task: whatever it does, and be
// the end to send or to receive. (A task of the number HomeRing has what lies in
// a channel: its home is no other one.)
func TestUseOfOwn(t *testing.T) {
	for _, home := range homes {
		for _, send := range []bool{true, false} {
			g := with(t, api.End{Chan: 2, Send: send, Home: home})
			for _, what := range whats {
				use(t, g, 0, home, what, 0)
			}
			holds(t, g, api.End{Chan: 2, Send: send, Home: home})
		}
	}
}

// P15.4: Use goes by the home as it is now.
func TestUseAsItGoes(t *testing.T) {
	g := with(t, api.End{Chan: 1, Send: true, Home: 0})
	use(t, g, 0, 0, Through, 0)
	moves(t, g, 0, 1, true)
	use(t, g, 0, 0, Through, api.EventMoved)
	use(t, g, 0, 0, Drops, api.EventOwner)
	use(t, g, 0, 1, Drops, 0)
	moves(t, g, 0, api.HomeRing, true)
	use(t, g, 0, 0, Other, api.EventMoved)
	use(t, g, 0, 1, Drops, api.EventOwner)
	goes(t, g, 0, true)
	use(t, g, 0, 0, Other, api.EventGone)
	use(t, g, 0, 1, Drops, api.EventTwice)
}

// P15.4: Use changes nothing, of whatever end and task.
func TestUseChangesNothing(t *testing.T) {
	g, want := some(t)
	for _, e := range slices.Concat(noEnds(g), l(0, 1, 2, 3, 4, 5)) {
		for _, task := range numbers {
			for _, what := range whats {
				g.Use(e, task, what)
			}
		}
	}
	holds(t, g, want...)
	born(t, g, 0, true, 0, len(want))
}
