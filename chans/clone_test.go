package chans

import (
	"testing"

	"pipewright/api"
)

// P16.2: one more end to send, of the same channel, whoever has the first one.
func TestCloneOfTasks(t *testing.T) {
	s := New()
	makes(t, s, 2, 5, 0, 1)
	makes(t, s, 1, 0, 2, 3)
	want := stateOf(s)
	for n, task := range tasks {
		clones(t, s, 0, task, 4+n)
		want.ends = append(want.ends, send(0, task))
		want.chans[0].Senders++
		holds(t, s, want)
	}
	clones(t, s, 4, 9, len(want.ends)) // of one that is a clone itself
	want.ends = append(want.ends, send(0, 9))
	want.chans[0].Senders++
	holds(t, s, want)
}

// P16.2: a clone does what the first one does, and may go ahead of it.
func TestCloneSends(t *testing.T) {
	s := New()
	makes(t, s, 3, 0, 0, 1)
	clones(t, s, 0, 1, 2)
	puts(t, s, 2, num(4), true)
	puts(t, s, 0, num(5), true)
	drops(t, s, 0, true)
	puts(t, s, 2, num(6), true)
	waits(t, s, 2, true)
	clones(t, s, 2, 7, 3)
	drops(t, s, 2, true)
	for n := range int64(3) {
		takes(t, s, 1, 0, num(4+n), 1)
	}
	takes(t, s, 1, 0, api.Item{}, -1)
	drops(t, s, 3, true)
	takes(t, s, 1, 0, api.Item{}, 0)
}

// P16.2: of an end that lies in a channel, also in its own.
func TestCloneOfLying(t *testing.T) {
	s := channels(t, 2)
	clones(t, s, 2, 0, 4)
	puts(t, s, 0, end(2), true)
	puts(t, s, 2, end(4), true)
	clones(t, s, 2, 3, 5)
	clones(t, s, 4, 4, 6)
	holds(t, s, state{
		[]api.End{send(0, 0), recv(0, 0), send(1, api.HomeRing), recv(1, 0), send(1, api.HomeRing), send(1, 3), send(1, 4)},
		[]api.Chan{{Senders: 1, Items: items(end(2))}, {Senders: 4, Items: items(end(4))}},
	})
}

// P16.2: of an end whose channel is gone.
func TestCloneOfGone(t *testing.T) {
	s := channels(t, 1)
	drops(t, s, 1, true)
	clones(t, s, 0, 2, 2)
	holds(t, s, state{
		[]api.End{send(0, 0), went(recv(0, 0), 1), send(0, 2)},
		[]api.Chan{{Senders: 2, Gone: true}},
	})
	puts(t, s, 2, num(1), true)
	drops(t, s, 0, true)
	clones(t, s, 2, 2, 3)
}

// P16.2: of an end to receive, of one that was dropped, of one that there is
// not, with a task below 0: -1, and nothing changes.
func TestCloneRefused(t *testing.T) {
	s := channels(t, 3)
	puts(t, s, 0, end(3), true) // an end to receive lies there
	drops(t, s, 2, true)
	drops(t, s, 5, true)
	for _, e := range append(noEnds(s), 1, 2, 3, 5) {
		for _, task := range tasks {
			stays(t, s, func() { clones(t, s, e, task, -1) })
		}
	}
	for e := -1; e < 7; e++ {
		for _, task := range noTasks {
			stays(t, s, func() { clones(t, s, e, task, -1) })
		}
	}
	clones(t, s, 0, 0, 6)
}
