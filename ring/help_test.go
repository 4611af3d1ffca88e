package ring

import (
	"math"
	"slices"
	"testing"
	"time"
)

// noSlots are those that say: any number of them.
var noSlots = []int{0, -1, -2, -1 << 31, -1 << 32, math.MinInt + 1, math.MinInt}

// pair is a structure with all that may be compared.
type pair struct {
	name   string
	number int
	inner  [2]bool
}

func l(numbers ...int) []int { return numbers }

// upTo: from, from + 1 and so on, ahead of to.
func upTo(from, to int) []int {
	var list []int
	for n := from; n < to; n++ {
		list = append(list, n)
	}
	return list
}

// holds: the ring has these things and slots, in all that it tells without a
// change, however often it is asked.
func holds[T comparable](t *testing.T, r *Ring[T], slots int, want ...T) {
	t.Helper()
	for range 2 {
		if all := r.All(); !slices.Equal(all, want) {
			t.Fatalf("All: %v, want %v", all, want)
		}
		if r.Len() != len(want) || r.Slots() != slots {
			t.Fatalf("Len %d, Slots %d, want %d, %d", r.Len(), r.Slots(), len(want), slots)
		}
		if full := slots > 0 && len(want) == slots; r.Full() != full {
			t.Fatalf("Full of %d in %d slots: %v", len(want), slots, !full)
		}
	}
}

func puts[T any](t *testing.T, r *Ring[T], things ...T) {
	t.Helper()
	for _, x := range things {
		if !r.Put(x) {
			t.Fatalf("Put(%v): false", x)
		}
	}
}

func takes[T comparable](t *testing.T, r *Ring[T], things ...T) {
	t.Helper()
	for _, want := range things {
		if x, ok := r.Take(); !ok || x != want {
			t.Fatalf("Take: %v %v, want %v", x, ok, want)
		}
	}
}

// refuses: Put is false, whatever it is given.
func refuses[T any](t *testing.T, r *Ring[T], things ...T) {
	t.Helper()
	for _, x := range things {
		if r.Put(x) {
			t.Fatalf("Put(%v): true", x)
		}
	}
}

// hasNone: Take answers the zero T and false, again and again.
func hasNone[T comparable](t *testing.T, r *Ring[T]) {
	t.Helper()
	var none T
	for range 3 {
		if x, ok := r.Take(); ok || x != none {
			t.Fatalf("Take of an empty one: %v %v", x, ok)
		}
	}
}

func clears[T comparable](t *testing.T, r *Ring[T], want ...T) {
	t.Helper()
	if all := r.Clear(); !slices.Equal(all, want) {
		t.Fatalf("Clear: %v, want %v", all, want)
	}
}

// turned is an empty ring whose next thing stands at that many slots, or more,
// from where a new one's stands.
func turned(t *testing.T, slots, by int) *Ring[int] {
	t.Helper()
	r := New[int](slots)
	for n := range by {
		puts(t, r, -n)
		takes(t, r, -n)
	}
	return r
}

// inTime fails where something takes far longer than it should.
func inTime(t *testing.T, what string, do func()) {
	t.Helper()
	begun := time.Now()
	do()
	if took := time.Since(begun); took > 20*time.Second {
		t.Errorf("%s: %v", what, took)
	}
}
