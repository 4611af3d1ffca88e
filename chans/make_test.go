package chans

import (
	"math"
	"testing"

	"pipewright/api"
)

// A new store has nothing.
func TestNew(t *testing.T) {
	s := New()
	holds(t, s, state{})
	for _, e := range noEnds(s) {
		if x, ok := s.End(e); ok || x != (api.End{}) {
			t.Fatalf("End(%d): %v %v", e, x, ok)
		}
	}
}

// P16.1: numbers from 0 on, the end to send ahead of the end to receive.
func TestMakeNumbers(t *testing.T) {
	s := New()
	var want state
	for c, task := range tasks {
		makes(t, s, 3, task, 2*c, 2*c+1)
		want.ends = append(want.ends, send(c, task), recv(c, task))
		want.chans = append(want.chans, api.Chan{Slots: 3, Senders: 1})
		holds(t, s, want)
	}
}

// P16.1: ends that Clone made have numbers in between.
func TestMakeBehindClones(t *testing.T) {
	s := New()
	makes(t, s, 1, 0, 0, 1)
	clones(t, s, 0, 4, 2)
	makes(t, s, 2, 3, 3, 4)
	clones(t, s, 0, 5, 5)
	clones(t, s, 3, 6, 6)
	makes(t, s, 0, 0, 7, 8)
	holds(t, s, state{
		[]api.End{send(0, 0), recv(0, 0), send(0, 4), send(1, 3), recv(1, 3), send(0, 5), send(1, 6), send(2, 0), recv(2, 0)},
		[]api.Chan{{Slots: 1, Senders: 3}, {Slots: 2, Senders: 2}, {Senders: 1}},
	})
}

// P16.1: slots below 1 are any number of them.
func TestMakeSlots(t *testing.T) {
	for _, slots := range l(math.MinInt, -1<<32, -2, -1, 0, 1, 2, 3, 5, 1<<31, 1<<32, math.MaxInt-1, math.MaxInt) {
		s := New()
		makes(t, s, slots, 0, 0, 1)
		want := state{[]api.End{send(0, 0), recv(0, 0)}, []api.Chan{{Slots: max(slots, 0), Senders: 1}}}
		holds(t, s, want)
		for n := range 20 {
			fits := slots < 1 || n < slots
			waits(t, s, 0, !fits)
			puts(t, s, 0, num(int64(n)), fits)
			if fits {
				want.chans[0].Items = append(want.chans[0].Items, num(int64(n)))
			}
			holds(t, s, want)
		}
	}
}

// P16.1: a task below 0: -1 both, and nothing changes.
func TestMakeRefused(t *testing.T) {
	s := New()
	for n := range 3 {
		for _, task := range noTasks {
			for _, slots := range l(math.MinInt, -1, 0, 1, 5, math.MaxInt) {
				stays(t, s, func() { makes(t, s, slots, task, -1, -1) })
			}
		}
		makes(t, s, 1, 0, 2*n, 2*n+1)
	}
}
