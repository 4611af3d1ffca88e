package chans

import (
	"math"
	"testing"

	"pipewright/api"
)

// P16.4: what is put stands behind all others; an item whose End is below 0 is a
// number, whatever End.
func TestPutNumbers(t *testing.T) {
	s := New()
	makes(t, s, 0, 0, 0, 1)
	want := stateOf(s)
	for _, n := range []int64{math.MinInt64, -1 << 32, -2, -1, 0, 1, 5, 1 << 40, math.MaxInt64} {
		for _, e := range l(-1, -2, -3, -1<<32, math.MinInt+1, math.MinInt) {
			puts(t, s, 0, api.Item{N: n, End: e}, true)
			want.chans[0].Items = append(want.chans[0].Items, num(n))
			holds(t, s, want)
		}
	}
	for _, x := range want.chans[0].Items {
		takes(t, s, 1, 0, x, 1)
	}
}

// P16.4: an end lies there then; its N is not looked at.
func TestPutEnds(t *testing.T) {
	for _, n := range []int64{0, 1, -1, 9, math.MinInt64, math.MaxInt64} {
		s := channels(t, 3)
		clones(t, s, 0, 7, 6)
		puts(t, s, 0, num(1), true)
		for _, e := range l(3, 2, 6) { // to receive, to send, to send through the same channel
			puts(t, s, 0, api.Item{N: n, End: e}, true)
		}
		puts(t, s, 4, api.Item{N: n, End: 1}, true)
		holds(t, s, state{
			[]api.End{send(0, 0), recv(0, api.HomeRing), send(1, api.HomeRing), recv(1, api.HomeRing), send(2, 0), recv(2, 0), send(0, api.HomeRing)},
			[]api.Chan{{Senders: 2, Items: items(num(1), end(3), end(2), end(6))}, {Senders: 1}, {Senders: 1, Items: items(end(1))}},
		})
		takes(t, s, 5, 2, end(1), 1)
		takes(t, s, 1, 2, num(1), 1)
		takes(t, s, 1, 2, end(3), 1)
	}
}

// P16.4: an end to receive may be put into its own channel; nobody asks who has
// the end that it is put through, nor which task has the item.
func TestPutAnywhere(t *testing.T) {
	s := channels(t, 2)
	puts(t, s, 0, end(1), true)
	puts(t, s, 2, end(0), true)
	puts(t, s, 0, num(7), true) // 0 lies in a channel
	makes(t, s, 1, 9, 4, 5)
	puts(t, s, 2, end(4), true)
	holds(t, s, state{
		[]api.End{send(0, api.HomeRing), recv(0, api.HomeRing), send(1, 0), recv(1, 0), send(2, api.HomeRing), recv(2, 9)},
		[]api.Chan{{Senders: 1, Items: items(end(1), num(7))}, {Senders: 1, Items: items(end(0), end(4))}, {Slots: 1, Senders: 1}},
	})
}

// P16.4: what is put into a channel that is gone goes: a number without more.
func TestPutNumberToNobody(t *testing.T) {
	for slots := range 3 {
		s := New()
		makes(t, s, slots, 0, 0, 1)
		puts(t, s, 0, num(1), true)
		drops(t, s, 1, true)
		for n := range int64(5) {
			stays(t, s, func() { puts(t, s, 0, num(n), true) })
			stays(t, s, func() { puts(t, s, 0, api.Item{N: n, End: -7}, true) })
		}
	}
}

// P16.4: and an end is dropped, with what goes with it.
func TestPutEndToNobody(t *testing.T) {
	s := channels(t, 4)
	clones(t, s, 0, 3, 8)
	drops(t, s, 1, true)
	puts(t, s, 0, api.Item{N: 5, End: 2}, true)
	puts(t, s, 0, end(8), true)
	puts(t, s, 4, end(6), true)
	puts(t, s, 4, end(7), true)
	puts(t, s, 6, num(3), true)
	puts(t, s, 0, end(5), true)
	holds(t, s, state{
		[]api.End{send(0, 0), went(recv(0, 0), 1), went(send(1, 0), 1), recv(1, 0), send(2, 0), went(recv(2, 0), 1), went(send(3, 0), 1), went(recv(3, 0), 1), went(send(0, 0), 1)},
		[]api.Chan{{Senders: 1, Gone: true}, {}, {Senders: 1, Gone: true}, {Gone: true}},
	})
	takes(t, s, 3, 0, api.Item{}, 0)
}

// P16.4: also the end that it is put through, where that lies in a channel that
// goes with it.
func TestPutDropsWhatItIsPutThrough(t *testing.T) {
	s := channels(t, 2)
	drops(t, s, 1, true)
	puts(t, s, 2, end(0), true)
	puts(t, s, 0, end(3), true)
	holds(t, s, state{
		[]api.End{went(send(0, 0), 1), went(recv(0, 0), 1), send(1, 0), went(recv(1, 0), 1)},
		[]api.Chan{{Gone: true}, {Senders: 1, Gone: true}},
	})
	stays(t, s, func() { puts(t, s, 0, num(1), false) })
}

// refused is a store with ends of all kinds: 0 has room, 2 is full, 4 and 5 were
// dropped, 6's channel is gone; 3 and 8 lie in a channel.
func refused(t *testing.T) *Store {
	s := New()
	makes(t, s, 2, 0, 0, 1)
	makes(t, s, 1, 0, 2, 3)
	makes(t, s, 2, 0, 4, 5)
	makes(t, s, 2, 0, 6, 7)
	makes(t, s, 2, 0, 8, 9)
	puts(t, s, 0, end(3), true)
	puts(t, s, 2, end(8), true)
	drops(t, s, 4, true)
	drops(t, s, 5, true)
	drops(t, s, 7, true)
	return s
}

// P16.4: e is no end to send, or was dropped, or waits: false, and nothing
// changes, whatever the item.
func TestPutThroughNone(t *testing.T) {
	s := refused(t)
	for _, e := range append(noEnds(s), 1, 2, 3, 4, 5, 7, 9) {
		for item := -3; item < 12; item++ {
			stays(t, s, func() { puts(t, s, e, api.Item{N: 3, End: item}, false) })
		}
	}
	puts(t, s, 0, num(3), true)
	stays(t, s, func() { puts(t, s, 0, num(3), false) })
	stays(t, s, func() { puts(t, s, 0, end(9), false) })
}

// P16.4: the item is an end that there is not, or that has no task for its home,
// or e itself: the same, whether or not the channel is gone.
func TestPutOfNoItem(t *testing.T) {
	s := refused(t)
	for _, e := range l(0, 6, 8) {
		for _, item := range append(noEnds(s), 3, 4, 5, 7, 8, e) {
			if item >= 0 {
				stays(t, s, func() { puts(t, s, e, end(item), false) })
				stays(t, s, func() { puts(t, s, e, api.Item{N: -1, End: item}, false) })
			}
		}
	}
	puts(t, s, 6, num(1), true)
	puts(t, s, 0, end(9), true)
}

// P16.4: an end that came out of a channel may go into one again.
func TestPutOnceMore(t *testing.T) {
	s := channels(t, 2)
	for n := range 5 {
		puts(t, s, 0, end(3), true)
		stays(t, s, func() { puts(t, s, 0, end(3), false) })
		takes(t, s, 1, n, end(3), 1)
		holds(t, s, state{
			[]api.End{send(0, 0), recv(0, 0), send(1, 0), recv(1, n)},
			[]api.Chan{{Senders: 1}, {Senders: 1}},
		})
	}
}
