package chans

import (
	"math"
	"testing"

	"pipewright/api"
)

// P16.3: an end to send waits as its channel is full.
func TestWaitsToSend(t *testing.T) {
	for slots := 1; slots < 6; slots++ {
		s := New()
		makes(t, s, slots, 0, 0, 1)
		clones(t, s, 0, 1, 2)
		for range slots {
			waits(t, s, 0, false)
			waits(t, s, 2, false)
			puts(t, s, 0, num(0), true)
		}
		waits(t, s, 0, true)
		waits(t, s, 2, true)
		drops(t, s, 2, true)
		waits(t, s, 0, true)
		takes(t, s, 1, 0, num(0), 1)
		waits(t, s, 0, false)
	}
}

// P16.3: of any number of slots it never does, nor of the greatest int of them.
func TestWaitsNever(t *testing.T) {
	for _, slots := range l(math.MinInt, -1, 0, math.MaxInt) {
		s := New()
		makes(t, s, slots, 0, 0, 1)
		for n := range 2000 {
			waits(t, s, 0, false)
			puts(t, s, 0, num(int64(n)), true)
		}
		waits(t, s, 0, false)
	}
}

// P16.3: nor as its channel is gone, full or not.
func TestWaitsGone(t *testing.T) {
	for filled := range 3 {
		s := New()
		makes(t, s, 2, 0, 0, 1)
		for range filled {
			puts(t, s, 0, num(0), true)
		}
		drops(t, s, 1, true)
		for range 5 {
			waits(t, s, 0, false)
			puts(t, s, 0, num(0), true)
		}
		waits(t, s, 1, false)
	}
}

// P16.3: an end to receive waits as there are no items, and some senders.
func TestWaitsToReceive(t *testing.T) {
	s := New()
	makes(t, s, 2, 0, 0, 1)
	waits(t, s, 1, true)
	puts(t, s, 0, num(0), true)
	waits(t, s, 1, false)
	clones(t, s, 0, 0, 2)
	takes(t, s, 1, 0, num(0), 1)
	waits(t, s, 1, true)
	drops(t, s, 0, true)
	waits(t, s, 1, true)
	puts(t, s, 2, num(1), true)
	drops(t, s, 2, true)
	waits(t, s, 1, false)
	takes(t, s, 1, 0, num(1), 1)
	waits(t, s, 1, false)
}

// P16.3: an end that lies in a channel waits as any other one: a sender that
// lies there is one that was not dropped.
func TestWaitsAsItLies(t *testing.T) {
	s := New()
	makes(t, s, 1, 0, 0, 1)
	makes(t, s, 1, 0, 2, 3)
	puts(t, s, 0, end(2), true)
	waits(t, s, 2, false)
	waits(t, s, 3, true)
	puts(t, s, 2, num(1), true)
	waits(t, s, 2, true)
	takes(t, s, 1, 0, end(2), 1)
	puts(t, s, 0, end(3), true)
	waits(t, s, 3, false)
	takes(t, s, 3, 0, num(1), 1)
	waits(t, s, 3, true)
}

// P16.3: of one that was dropped, and of none: false.
func TestWaitsOfNone(t *testing.T) {
	s := New()
	makes(t, s, 1, 0, 0, 1)
	clones(t, s, 0, 0, 2)
	puts(t, s, 0, num(1), true)
	waits(t, s, 0, true)
	drops(t, s, 0, true)
	waits(t, s, 0, false)
	makes(t, s, 1, 0, 3, 4)
	waits(t, s, 4, true)
	drops(t, s, 4, true)
	waits(t, s, 4, false)
	for _, e := range noEnds(s) {
		stays(t, s, func() { waits(t, s, e, false) })
	}
	waits(t, New(), 0, false)
	waits(t, New(), api.HomeRing, false)
}
