package ring

import (
	"math/rand"
	"strconv"
	"testing"
)

// P14, what follows: rings know nothing of each other, of one kind or of
// several.
func TestBeside(t *testing.T) {
	numbers, texts, pairs := New[int](2), New[string](0), New[pair](3)
	puts(t, numbers, 1, 2)
	holds(t, texts, 0)
	holds(t, pairs, 3)
	puts(t, texts, "a", "b", "c")
	puts(t, pairs, pair{name: "a"}, pair{number: 1})
	holds(t, numbers, 2, 1, 2)
	takes(t, texts, "a")
	refuses(t, numbers, 3)
	holds(t, pairs, 3, pair{name: "a"}, pair{number: 1})
	clears(t, numbers, 1, 2)
	holds(t, texts, 0, "b", "c")
	takes(t, pairs, pair{name: "a"}, pair{number: 1})
	hasNone(t, pairs)
	hasNone(t, numbers)
	holds(t, texts, 0, "b", "c")
}

// What one ring answers may go into another one, and into itself.
func TestFromRingToRing(t *testing.T) {
	a, b := New[int](4), New[int](0)
	puts(t, a, 1, 2, 3, 4)
	puts(t, b, a.All()...)
	puts(t, b, a.Clear()...)
	holds(t, a, 4)
	holds(t, b, 0, 1, 2, 3, 4, 1, 2, 3, 4)
	puts(t, b, b.All()...)
	takes(t, b, 1, 2, 3, 4, 1, 2, 3, 4)
	puts(t, a, 9)
	holds(t, b, 0, 1, 2, 3, 4, 1, 2, 3, 4)
	puts(t, b, b.Clear()...)
	holds(t, b, 0, 1, 2, 3, 4, 1, 2, 3, 4)
	holds(t, a, 4, 9)
}

// P14, what follows: many rings of three kinds, in turn, as draws will have it,
// each held against a plain row of its own.
func TestManyBeside(t *testing.T) {
	r := rand.New(rand.NewSource(1))
	var numbers []*twin[int]
	var texts []*twin[string]
	var pairs []*twin[pair]
	for k := range 8 {
		numbers = append(numbers, newTwin[int](k))
		texts = append(texts, newTwin[string](k-1))
		pairs = append(pairs, newTwin[pair](2*k))
	}
	for n := range 40000 {
		k := r.Intn(8)
		switch r.Intn(3) {
		case 0:
			numbers[k].do(t, r, n)
		case 1:
			texts[k].do(t, r, strconv.Itoa(n))
		case 2:
			pairs[k].do(t, r, pair{strconv.Itoa(n), n, [2]bool{n%2 > 0, n%3 > 0}})
		}
		if n%100 > 0 {
			continue
		}
		for k := range 8 {
			numbers[k].alike(t)
			texts[k].alike(t)
			pairs[k].alike(t)
		}
	}
}
