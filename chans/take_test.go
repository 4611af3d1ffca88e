package chans

import (
	"math"
	"testing"

	"pipewright/api"
)

// P16.5: items come in the order in which they were put, and ends are the
// task's then.
func TestTakeInOrder(t *testing.T) {
	for _, task := range tasks {
		s := channels(t, 3)
		row := items(num(5), end(3), num(-5), end(4), num(0), end(5), num(math.MinInt64))
		for _, x := range row {
			puts(t, s, 0, x, true)
		}
		want := stateOf(s)
		for n, x := range row {
			takes(t, s, 1, task, x, 1)
			want.chans[0].Items = row[n+1:]
			if x.End >= 0 {
				want.ends[x.End].Home = task
			}
			holds(t, s, want)
		}
		stays(t, s, func() { takes(t, s, 1, task, api.Item{}, -1) })
	}
}

// P16.5: through few slots many go, round and round.
func TestTakeRound(t *testing.T) {
	for slots := range 6 {
		s := New()
		makes(t, s, slots, 0, 0, 1)
		next, first := int64(0), int64(0)
		for n := range 200 {
			for range n%5 + 1 {
				if !s.Waits(0) {
					puts(t, s, 0, num(next), true)
					next++
				}
			}
			for range n % 4 {
				if first < next {
					takes(t, s, 1, 0, num(first), 1)
					first++
				}
			}
		}
		for ; first < next; first++ {
			takes(t, s, 1, 0, num(first), 1)
		}
	}
}

// P16.5: an end that was dropped as it lay there is told all the same, and
// stays dropped.
func TestTakeOfDropped(t *testing.T) {
	s := channels(t, 3)
	puts(t, s, 0, end(2), true)
	puts(t, s, 0, end(5), true)
	puts(t, s, 0, end(4), true)
	drops(t, s, 2, true)
	drops(t, s, 5, true)
	drops(t, s, 5, false)
	want := state{
		[]api.End{send(0, 0), recv(0, 0), went(send(1, 0), 1), recv(1, 0), send(2, api.HomeRing), went(recv(2, 0), 2)},
		[]api.Chan{{Senders: 1, Items: items(end(2), end(5), end(4))}, {}, {Senders: 1, Gone: true}},
	}
	holds(t, s, want)
	for n, e := range l(2, 5, 4) {
		takes(t, s, 1, 6, end(e), 1)
		want.chans[0].Items = items(end(2), end(5), end(4))[n+1:]
		if e == 4 {
			want.ends[4].Home = 6
		}
		holds(t, s, want)
	}
}

// P16.5: no item, and 0: there is none, and there are no senders.
func TestTakeOfNothing(t *testing.T) {
	s := channels(t, 1)
	clones(t, s, 0, 3, 2)
	puts(t, s, 2, num(8), true)
	drops(t, s, 0, true)
	drops(t, s, 2, true)
	takes(t, s, 1, 0, num(8), 1)
	for _, task := range tasks {
		stays(t, s, func() { takes(t, s, 1, task, api.Item{}, 0) })
	}
}

// P16.5: a task below 0: no item, and -1, and nothing changes, whether there is
// one, or none any more.
func TestTakeByNobody(t *testing.T) {
	s := channels(t, 4)
	puts(t, s, 0, num(3), true)
	puts(t, s, 2, end(0), true)
	drops(t, s, 4, true)
	for _, e := range append(noEnds(s), 0, 1, 2, 3, 4, 5, 6, 7) {
		for _, task := range noTasks {
			stays(t, s, func() { takes(t, s, e, task, api.Item{}, -1) })
		}
	}
	takes(t, s, 1, 0, num(3), 1)
	takes(t, s, 3, 0, end(0), 1)
	takes(t, s, 5, 0, api.Item{}, 0)
}

// P16.5: e is no end to receive, or was dropped, or waits: the same.
func TestTakeFromNone(t *testing.T) {
	s := channels(t, 5)
	puts(t, s, 0, num(3), true) // 0 is to send, though there is an item
	drops(t, s, 2, true)
	drops(t, s, 3, true) // dropped, and no senders
	drops(t, s, 5, true) // dropped, and a sender
	puts(t, s, 0, end(9), true)
	for _, e := range append(noEnds(s), 0, 2, 3, 4, 5, 6, 7, 8, 9) {
		for _, task := range tasks {
			stays(t, s, func() { takes(t, s, e, task, api.Item{}, -1) })
		}
	}
	takes(t, s, 1, 0, num(3), 1)
}

// P16.5: nobody asks who has e: one that lies in a channel takes too, and may
// take itself.
func TestTakeAsItLies(t *testing.T) {
	s := channels(t, 2)
	puts(t, s, 2, num(4), true)
	puts(t, s, 0, end(3), true)
	takes(t, s, 3, 0, num(4), 1)
	puts(t, s, 0, end(1), true)
	takes(t, s, 1, 7, end(3), 1)
	takes(t, s, 1, 8, end(1), 1)
	holds(t, s, state{
		[]api.End{send(0, 0), recv(0, 8), send(1, 0), recv(1, 7)},
		[]api.Chan{{Senders: 1}, {Senders: 1}},
	})
}

// A task that takes its last sender out of a channel has it: there is one still.
func TestTakeOfTheLastSender(t *testing.T) {
	s := channels(t, 1)
	clones(t, s, 0, 0, 2)
	puts(t, s, 0, end(2), true)
	drops(t, s, 0, true)
	waits(t, s, 1, false)
	takes(t, s, 1, 0, end(2), 1)
	waits(t, s, 1, true)
	takes(t, s, 1, 0, api.Item{}, -1)
	drops(t, s, 2, true)
	takes(t, s, 1, 0, api.Item{}, 0)
}
