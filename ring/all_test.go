package ring

import (
	"math"
	"testing"
)

// P14: All is all things, the first one first, of a ring that goes round.
func TestAll(t *testing.T) {
	for slots := range 9 {
		for by := range 2*slots + 5 {
			r := turned(t, slots, by)
			holds(t, r, slots)
			for n := range max(slots, 8) {
				if slots > 0 && n >= slots {
					break
				}
				puts(t, r, n)
				holds(t, r, slots, upTo(0, n+1)...)
			}
		}
	}
}

// P14: of an empty one All and Clear are nothing.
func TestAllOfAnEmptyOne(t *testing.T) {
	for _, slots := range append(l(1, 2, math.MaxInt), noSlots...) {
		r := New[pair](slots)
		for range 2 {
			if len(r.All()) != 0 || len(r.Clear()) != 0 {
				t.Fatalf("New(%d): %v %v", slots, r.All(), r.Clear())
			}
			holds(t, r, max(slots, 0))
			puts(t, r, pair{name: "a"})
			takes(t, r, pair{name: "a"})
		}
	}
}

// P14: All changes nothing: a ring that is asked between all calls does what
// one does that is never asked.
func TestAllChangesNothing(t *testing.T) {
	for slots := range 6 {
		asked, other := New[int](slots), New[int](slots)
		for n := range 200 {
			asked.All()
			if a, b := asked.Put(n), other.Put(n); a != b {
				t.Fatalf("Put %d: %v, and %v where All was asked", n, b, a)
			}
			asked.All()
			if n%3 > 0 {
				continue
			}
			a, aOk := asked.Take()
			b, bOk := other.Take()
			if a != b || aOk != bOk {
				t.Fatalf("Take: %v %v, and %v %v where All was asked", b, bOk, a, aOk)
			}
		}
		holds(t, asked, slots, other.All()...)
	}
}

// P14.4: Clear is what All says; the ring is empty then, and may be used again,
// with the slots that it had.
func TestClear(t *testing.T) {
	for slots := range 9 {
		for by := range slots + 5 {
			for in := range 10 {
				if slots > 0 && in > slots {
					continue
				}
				r := turned(t, slots, by)
				puts(t, r, upTo(0, in)...)
				clears(t, r, upTo(0, in)...)
				holds(t, r, slots)
				hasNone(t, r)
				clears(t, r)
				holds(t, r, slots)
				again := upTo(50, 50+max(slots, in))
				puts(t, r, again...)
				if slots > 0 {
					refuses(t, r, 0)
				}
				holds(t, r, slots, again...)
				takes(t, r, again...)
				hasNone(t, r)
			}
		}
	}
}

// P14.4: it is cleared again and again.
func TestClearAgain(t *testing.T) {
	for _, slots := range l(0, 1, 2, 5, math.MaxInt) {
		r := New[int](slots)
		for n := range 50 {
			want := upTo(n, n+n%7)
			if slots > 0 && slots < len(want) {
				want = want[:slots]
			}
			puts(t, r, want...)
			clears(t, r, want...)
			holds(t, r, slots)
		}
		hasNone(t, r)
	}
}
