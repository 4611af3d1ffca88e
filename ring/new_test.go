package ring

import (
	"math"
	"testing"
)

// P14.1: slots below 1 are any number of them.
func TestAnyNumber(t *testing.T) {
	for _, slots := range noSlots {
		r := New[int](slots)
		holds(t, r, 0)
		hasNone(t, r)
		for n := range 300 {
			puts(t, r, n)
			if r.Full() || r.Len() != n+1 || r.Slots() != 0 {
				t.Fatalf("New(%d) with %d: Full %v, Len %d, Slots %d", slots, n+1, r.Full(), r.Len(), r.Slots())
			}
		}
		holds(t, r, 0, upTo(0, 300)...)
		takes(t, r, upTo(0, 300)...)
		holds(t, r, 0)
		hasNone(t, r)
	}
}

// P14.1: one slot.
func TestOneSlot(t *testing.T) {
	r := New[int](1)
	holds(t, r, 1)
	hasNone(t, r)
	for n := range 10 {
		puts(t, r, n)
		holds(t, r, 1, n)
		refuses(t, r, n, -1, 0)
		holds(t, r, 1, n)
		takes(t, r, n)
		holds(t, r, 1)
		hasNone(t, r)
	}
}

// P14.1: so many slots: that many things, and no more.
func TestSeveralSlots(t *testing.T) {
	for slots := 1; slots <= 70; slots++ {
		r := New[int](slots)
		holds(t, r, slots)
		for n := range slots {
			puts(t, r, n)
			holds(t, r, slots, upTo(0, n+1)...)
		}
		refuses(t, r, 7, -7)
		holds(t, r, slots, upTo(0, slots)...)
		takes(t, r, upTo(0, slots)...)
		hasNone(t, r)
		holds(t, r, slots)
	}
}

// P14.1 and P1: far more slots than memory has.
func TestFarSlots(t *testing.T) {
	for _, slots := range []int{1 << 31, 1 << 40, 1 << 62, math.MaxInt - 1, math.MaxInt} {
		r := New[int](slots)
		holds(t, r, slots)
		hasNone(t, r)
		puts(t, r, upTo(0, 100)...)
		holds(t, r, slots, upTo(0, 100)...)
		takes(t, r, upTo(0, 60)...)
		puts(t, r, upTo(100, 250)...)
		holds(t, r, slots, upTo(60, 250)...)
		clears(t, r, upTo(60, 250)...)
		holds(t, r, slots)
		puts(t, r, 1)
		holds(t, r, slots, 1)

		big := New[[4096]int](slots)
		puts(t, big, [4096]int{1: 1}, [4096]int{2: 2})
		takes(t, big, [4096]int{1: 1}, [4096]int{2: 2})
		holds(t, big, slots)
	}
}

// P14.1: each New answers a ring of its own.
func TestNewIsNew(t *testing.T) {
	r, s := New[struct{}](1), New[struct{}](1)
	if r == s {
		t.Fatal("two rings are one")
	}
	puts(t, r, struct{}{})
	holds(t, s, 1)
	puts(t, s, struct{}{})
	refuses(t, s, struct{}{})
	takes(t, r, struct{}{})
	hasNone(t, r)
	holds(t, s, 1, struct{}{})
}
