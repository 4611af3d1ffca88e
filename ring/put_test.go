package ring

import (
	"math"
	"testing"
)

// P14: the chapter's example, whole.
func TestExample(t *testing.T) {
	r := New[int](2)
	puts(t, r, 5, 6)
	refuses(t, r, 7)
	takes(t, r, 5)
	puts(t, r, 8)
	holds(t, r, 2, 6, 8)
}

// P14.2: the thing stands behind all others, of a ring that has none, or some.
func TestPut(t *testing.T) {
	r := New[string](3)
	puts(t, r, "a")
	holds(t, r, 3, "a")
	puts(t, r, "")
	holds(t, r, 3, "a", "")
	takes(t, r, "a")
	puts(t, r, "a")
	holds(t, r, 3, "", "a")
	puts(t, r, "a")
	holds(t, r, 3, "", "a", "a")
}

// P14.2: Put on a full one is false, and changes nothing, wherever the first
// thing stands.
func TestPutOnAFullOne(t *testing.T) {
	for slots := 1; slots <= 9; slots++ {
		for by := range 2*slots + 1 {
			r := turned(t, slots, by)
			puts(t, r, upTo(1, slots+1)...)
			for range 2 * slots {
				refuses(t, r, 0, -1, 1, slots, math.MaxInt, math.MinInt)
				holds(t, r, slots, upTo(1, slots+1)...)
			}
			takes(t, r, 1)
			puts(t, r, 99)
			refuses(t, r, 100)
			holds(t, r, slots, append(upTo(2, slots+1), 99)...)
			takes(t, r, append(upTo(2, slots+1), 99)...)
			hasNone(t, r)
		}
	}
}

// P14.3: the first thing, which is gone then.
func TestTake(t *testing.T) {
	r := New[pair](3)
	a, b, c := pair{name: "a"}, pair{number: 2}, pair{inner: [2]bool{true, false}}
	puts(t, r, a, b, c)
	takes(t, r, a)
	holds(t, r, 3, b, c)
	takes(t, r, b)
	holds(t, r, 3, c)
	puts(t, r, a)
	holds(t, r, 3, c, a)
	takes(t, r, c, a)
	holds(t, r, 3)
}

// P14.3: of an empty one the zero T and false, whatever was taken last, and it
// stays as it is.
func TestTakeOfAnEmptyOne(t *testing.T) {
	for _, slots := range []int{0, 1, 2, 3, math.MaxInt} {
		for by := range 6 {
			r := turned(t, slots, by)
			hasNone(t, r)
			holds(t, r, slots)
			puts(t, r, 7)
			takes(t, r, 7)
			hasNone(t, r)
			holds(t, r, slots)
			puts(t, r, 8)
			holds(t, r, slots, 8)
		}
	}
	texts, pairs, pointers := New[string](1), New[pair](0), New[*int](2)
	n := 5
	puts(t, texts, "a")
	puts(t, pairs, pair{"a", 1, [2]bool{true, true}})
	puts(t, pointers, &n)
	takes(t, texts, "a")
	takes(t, pairs, pair{"a", 1, [2]bool{true, true}})
	takes(t, pointers, &n)
	hasNone(t, texts)
	hasNone(t, pairs)
	hasNone(t, pointers)
}

// P14.3: a zero T that was put is a thing like others.
func TestZeroThings(t *testing.T) {
	r := New[int](2)
	puts(t, r, 0, 0)
	refuses(t, r, 0)
	holds(t, r, 2, 0, 0)
	takes(t, r, 0, 0)
	hasNone(t, r)
	p := New[*pair](0)
	puts(t, p, nil, nil, nil)
	holds(t, p, 0, nil, nil, nil)
	takes(t, p, nil, nil, nil)
	hasNone(t, p)
	e := New[any](2)
	puts(t, e, nil, any(0))
	refuses(t, e, nil)
	takes(t, e, nil, any(0))
	hasNone(t, e)
}

// P14: things that cannot be compared are put and taken, too, as they are.
func TestThingsOfAnyKind(t *testing.T) {
	lists := New[[]int](2)
	list := l(1, 2)
	puts(t, lists, list, nil)
	refuses(t, lists, l(3))
	if x, ok := lists.Take(); !ok || len(x) != 2 || &x[0] != &list[0] {
		t.Fatalf("Take: %v %v", x, ok)
	}
	if x, ok := lists.Take(); !ok || x != nil {
		t.Fatalf("Take: %v %v", x, ok)
	}
	if x, ok := lists.Take(); ok || x != nil {
		t.Fatalf("Take of an empty one: %v %v", x, ok)
	}
	calls := New[func() int](0)
	for n := range 20 {
		puts(t, calls, func() int { return n })
	}
	for n := range 20 {
		if f, ok := calls.Take(); !ok || f() != n {
			t.Fatalf("Take: the function %d is another one", n)
		}
	}
	if f, ok := calls.Take(); ok || f != nil {
		t.Fatal("Take of an empty one: a function")
	}
	rings := New[*Ring[int]](1)
	puts(t, rings, New[int](1))
	puts(t, rings.All()[0], 5)
	inner, _ := rings.Take()
	holds(t, inner, 1, 5)
}
