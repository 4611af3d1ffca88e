package chans

import (
	"testing"

	"pipewright/api"
)

// P16.6: of an end to send: one sender less.
func TestDropOfSenders(t *testing.T) {
	s := channels(t, 2)
	for n := range 4 {
		clones(t, s, 0, n, 4+n)
	}
	puts(t, s, 2, end(5), true)
	puts(t, s, 0, num(3), true)
	want := stateOf(s)
	for _, e := range l(6, 0, 5, 4, 7) { // 5 lies in a channel
		drops(t, s, e, true)
		want.ends[e] = went(want.ends[e], 1)
		want.chans[0].Senders--
		holds(t, s, want)
	}
	takes(t, s, 1, 0, num(3), 1)
	takes(t, s, 1, 0, api.Item{}, 0)
}

// P16.6: of an end to receive: its channel is gone, and its items go.
func TestDropOfReceivers(t *testing.T) {
	for _, row := range [][]api.Item{nil, {num(1)}, {num(1), num(2), num(0)}} {
		s := channels(t, 2)
		for _, x := range row {
			puts(t, s, 0, x, true)
			puts(t, s, 2, x, true)
		}
		want := stateOf(s)
		drops(t, s, 1, true)
		want.ends[1] = went(want.ends[1], 1)
		want.chans[0] = api.Chan{Senders: 1, Gone: true}
		holds(t, s, want)
	}
}

// P16.6: and each one that is an end is dropped as well.
func TestDropOfWhatLay(t *testing.T) {
	s := channels(t, 4)
	clones(t, s, 2, 0, 8)
	for _, x := range items(num(1), end(3), end(8), num(2), end(4), end(7)) {
		puts(t, s, 0, x, true)
	}
	drops(t, s, 1, true)
	holds(t, s, state{
		[]api.End{send(0, 0), went(recv(0, 0), 1), send(1, 0), went(recv(1, 0), 1), went(send(2, 0), 1), recv(2, 0), send(3, 0), went(recv(3, 0), 1), went(send(1, 0), 1)},
		[]api.Chan{{Senders: 1, Gone: true}, {Senders: 1, Gone: true}, {}, {Senders: 1, Gone: true}},
	})
}

// P16.6: an end that was taken out ahead stays, and so does what lies in its
// channel.
func TestDropLeavesWhatWasTaken(t *testing.T) {
	s := channels(t, 3)
	puts(t, s, 2, end(4), true)
	puts(t, s, 0, end(3), true)
	puts(t, s, 0, end(5), true)
	takes(t, s, 1, 6, end(3), 1)
	goes(t, s, 1, 1, 5)
	holds(t, s, state{
		[]api.End{send(0, 0), went(recv(0, 0), 1), send(1, 0), recv(1, 6), send(2, api.HomeRing), went(recv(2, 0), 1)},
		[]api.Chan{{Senders: 1, Gone: true}, {Senders: 1, Items: items(end(4))}, {Senders: 1, Gone: true}},
	})
}

// P16.6: an end is dropped but once: then false, and it is counted once more, and
// nothing else changes.
func TestDropTwice(t *testing.T) {
	s := channels(t, 2)
	puts(t, s, 0, end(2), true)
	for _, e := range l(0, 1, 2, 3) {
		first := e != 2 // 2 went with 1
		for range 4 {
			before := stateOf(s)
			drops(t, s, e, first)
			if !first {
				before.ends[e].Drops++
				holds(t, s, before)
			}
			first = false
		}
	}
	holds(t, s, state{
		[]api.End{went(send(0, 0), 4), went(recv(0, 0), 4), went(send(1, 0), 5), went(recv(1, 0), 4)},
		[]api.Chan{{Gone: true}, {Gone: true}},
	})
}

// P16.6: of none: false, and nothing changes.
func TestDropOfNone(t *testing.T) {
	for _, s := range []*Store{New(), channels(t, 1), refused(t)} {
		for _, e := range noEnds(s) {
			stays(t, s, func() { drops(t, s, e, false) })
			stays(t, s, func() { goes(t, s, e) })
		}
	}
}

// P16.6: the first one first, each with what goes with it, ahead of the next one.
func TestDropOrder(t *testing.T) {
	s := channels(t, 8)
	lay := [][]int{0: {3, 4, 9}, 1: {6, 7, 8}, 3: {10}, 4: {13, 12, 15}, 6: {11}}
	for c, list := range lay {
		for _, e := range list {
			puts(t, s, 2*c, num(7), true)
			puts(t, s, 2*c, end(e), true)
		}
	}
	// 1: channel 0 (3: channel 1 (6, 7: channel 3 (10), 8), 4, 9: channel 4 (13: channel 6 (11), 12, 15))
	goes(t, s, 1, 1, 3, 6, 7, 10, 8, 4, 9, 13, 11, 12, 15)
	for e, x := range s.All() {
		if was := e != 0 && e != 2 && e != 5 && e != 14; was != (x.Drops == 1) || x.Drops > 1 {
			t.Errorf("the end %d: %v", e, x)
		}
	}
	for c, x := range s.Chans() {
		if gone := c != 2; x.Gone != gone || len(x.Items) > 0 {
			t.Errorf("the channel %d: %v", c, x)
		}
	}
}

// The same of a row of channels, each in the one ahead of it.
func TestDropOfRow(t *testing.T) {
	const n = 30
	s := channels(t, n)
	want := l(1)
	for c := range n - 1 {
		puts(t, s, 2*c, num(1), true)
		puts(t, s, 2*c, end(2*c+3), true)
		want = append(want, 2*c+3)
	}
	goes(t, s, 1, want...)
	for c := range n {
		drops(t, s, 2*c+1, false)
		drops(t, s, 2*c, true)
	}
}

// P16.6: each goes once, also an end to send that lies in its own channel, or in
// one that goes with that.
func TestDropOfSendersWithin(t *testing.T) {
	s := channels(t, 2)
	clones(t, s, 0, 0, 4)
	clones(t, s, 0, 0, 5)
	clones(t, s, 2, 0, 6)
	puts(t, s, 0, end(4), true)
	puts(t, s, 0, end(3), true)
	puts(t, s, 2, end(6), true)
	puts(t, s, 2, end(0), true)
	goes(t, s, 1, 1, 4, 3, 6, 0)
	holds(t, s, state{
		[]api.End{went(send(0, 0), 1), went(recv(0, 0), 1), send(1, 0), went(recv(1, 0), 1), went(send(0, 0), 1), send(0, 0), went(send(1, 0), 1)},
		[]api.Chan{{Senders: 1, Gone: true}, {Senders: 1, Gone: true}},
	})
}

// P16.6: an end to receive that lies in its own channel goes once. Its channel's
// items are dropped as well, and it is one of them: so it is counted once more,
// as there was none to drop.
func TestDropInItsOwn(t *testing.T) {
	s := channels(t, 2)
	puts(t, s, 0, num(1), true)
	puts(t, s, 0, end(1), true)
	puts(t, s, 0, end(2), true)
	goes(t, s, 1, 1, 2)
	holds(t, s, state{
		[]api.End{send(0, 0), went(recv(0, 0), 2), went(send(1, 0), 1), recv(1, 0)},
		[]api.Chan{{Senders: 1, Gone: true}, {}},
	})
}

// P16.6: and so does each one of a round of channels that lie in each other,
// wherever it begins.
func TestDropOfRound(t *testing.T) {
	const n = 7
	for first := range n {
		s := channels(t, n)
		var want []int
		for c := range n {
			puts(t, s, 2*c, end(2*((c+1)%n)+1), true)
			want = append(want, 2*((first+c)%n)+1)
		}
		goes(t, s, 2*first+1, want...)
		for c := range n {
			x, _ := s.End(2*c + 1)
			times := 1
			if c == first { // it lay in the last one that went
				times = 2
			}
			if x != went(recv(c, 0), times) {
				t.Fatalf("a round from %d on: the end %d: %v", first, 2*c+1, x)
			}
		}
		for c, x := range s.Chans() {
			if !sameChan(x, api.Chan{Senders: 1, Gone: true}) {
				t.Fatalf("the channel %d: %v", c, x)
			}
		}
	}
}

// P16.6: an end that was dropped as it lay there is none to drop any more as its
// channel goes: that is counted, and nothing goes with it.
func TestDropOfDroppedAsItLay(t *testing.T) {
	s := channels(t, 3)
	puts(t, s, 2, end(4), true)
	puts(t, s, 0, end(3), true)
	puts(t, s, 0, end(5), true)
	goes(t, s, 3, 3, 4)
	goes(t, s, 1, 1, 5)
	holds(t, s, state{
		[]api.End{send(0, 0), went(recv(0, 0), 1), send(1, 0), went(recv(1, 0), 2), went(send(2, 0), 1), went(recv(2, 0), 1)},
		[]api.Chan{{Senders: 1, Gone: true}, {Senders: 1, Gone: true}, {Gone: true}},
	})
}
