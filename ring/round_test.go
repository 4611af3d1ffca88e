package ring

import (
	"slices"
	"testing"
)

// P14.2 and P14.3: Put and Take in turn, so that the row goes round its slots
// many times, with each number of things in it.
func TestRound(t *testing.T) {
	for slots := range 10 {
		for in := range max(slots, 9) + 1 {
			if slots > 0 && in >= slots {
				continue
			}
			r := New[int](slots)
			puts(t, r, upTo(0, in)...)
			for n := range 10 * (slots + 9) {
				puts(t, r, n+in)
				holds(t, r, slots, upTo(n, n+in+1)...)
				takes(t, r, n)
				holds(t, r, slots, upTo(n+1, n+in+1)...)
			}
		}
	}
}

// P14.2 and P14.3: of a full one, too, whose every Take makes room for one.
func TestRoundOfAFullOne(t *testing.T) {
	for slots := 1; slots <= 12; slots++ {
		r := New[int](slots)
		puts(t, r, upTo(0, slots)...)
		for n := range 10 * slots {
			takes(t, r, n)
			puts(t, r, n+slots)
			refuses(t, r, -1)
			holds(t, r, slots, upTo(n+1, n+slots+1)...)
		}
	}
}

// P14.2 and P14.3: it is filled and emptied, by steps of all sizes.
func TestTides(t *testing.T) {
	for _, slots := range []int{0, 13, 16, 17} {
		for up := 1; up <= 13; up++ {
			for down := 1; down <= up; down++ {
				tide(t, slots, up, down)
			}
		}
	}
}

// tide puts so many and takes so many, till the ring has no room for more, then
// takes them all.
func tide(t *testing.T, slots, up, down int) {
	t.Helper()
	r := New[int](slots)
	first, next := 0, 0
	for range 12 {
		if slots > 0 && next-first+up > slots {
			break
		}
		puts(t, r, upTo(next, next+up)...)
		next += up
		takes(t, r, upTo(first, first+down)...)
		first += down
		holds(t, r, slots, upTo(first, next)...)
	}
	takes(t, r, upTo(first, next)...)
	hasNone(t, r)
}

// P14.2: of any number of slots: it grows while its first thing stands anywhere,
// from any number of things on.
func TestGrowsFromAnywhere(t *testing.T) {
	for _, slots := range []int{0, 67, 1000} {
		for had := range 34 {
			for gone := range had + 1 {
				for _, more := range l(1, 2, 31) {
					r := New[int](slots)
					puts(t, r, upTo(0, had)...)
					takes(t, r, upTo(0, gone)...)
					puts(t, r, upTo(had, had+gone)...) // as many as it had: it has gone round
					puts(t, r, upTo(had+gone, had+gone+more)...)
					holds(t, r, slots, upTo(gone, had+gone+more)...)
					takes(t, r, upTo(gone, had+gone+more)...)
					hasNone(t, r)
				}
			}
		}
	}
}

// P14.2: it grows again and again, its first thing a little further each time.
func TestGrowsAgain(t *testing.T) {
	for step := 1; step <= 7; step++ {
		for _, slots := range l(0, 5000) {
			r := New[int](slots)
			first, next := 0, 0
			for next < 3000 {
				puts(t, r, upTo(next, next+2*step)...)
				next += 2 * step
				takes(t, r, upTo(first, first+step)...)
				first += step
				if r.Len() != next-first {
					t.Fatalf("Len: %d, want %d", r.Len(), next-first)
				}
			}
			holds(t, r, slots, upTo(first, next)...)
			takes(t, r, upTo(first, next)...)
			hasNone(t, r)
		}
	}
}

// P14: it is full at the very number of slots, though it grew while its first
// thing stood anywhere.
func TestFullFromAnywhere(t *testing.T) {
	for slots := 1; slots <= 40; slots++ {
		for had := range slots + 1 {
			for _, gone := range slices.Compact(l(0, had/3, had/2, had)) {
				r := New[int](slots)
				puts(t, r, upTo(0, had)...)
				takes(t, r, upTo(0, gone)...)
				puts(t, r, upTo(had, slots+gone)...)
				refuses(t, r, -1, -2)
				holds(t, r, slots, upTo(gone, slots+gone)...)
				takes(t, r, upTo(gone, slots+gone)...)
				hasNone(t, r)
			}
		}
	}
}
