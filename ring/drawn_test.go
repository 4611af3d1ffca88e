package ring

import (
	"math"
	"math/rand"
	"slices"
	"testing"
)

// twin is a ring, and a plain row of the things that it should have.
type twin[T comparable] struct {
	ring  *Ring[T]
	slots int // 0: any number
	row   []T
}

func newTwin[T comparable](slots int) *twin[T] {
	return &twin[T]{ring: New[T](slots), slots: max(slots, 0)}
}

func (w *twin[T]) alike(t *testing.T) {
	t.Helper()
	holds(t, w.ring, w.slots, w.row...)
}

func (w *twin[T]) put(t *testing.T, x T) {
	t.Helper()
	room := w.slots == 0 || len(w.row) < w.slots
	if room {
		w.row = append(slices.Clone(w.row), x)
	}
	if w.ring.Put(x) != room {
		t.Fatalf("Put(%v) with %v in %d slots: %v", x, w.row, w.slots, !room)
	}
}

func (w *twin[T]) take(t *testing.T) {
	t.Helper()
	if len(w.row) == 0 {
		hasNone(t, w.ring)
		return
	}
	takes(t, w.ring, w.row[0])
	w.row = w.row[1:]
}

func (w *twin[T]) clear(t *testing.T) {
	t.Helper()
	clears(t, w.ring, w.row...)
	w.row = nil
}

// do asks for one thing or another, as it is drawn.
func (w *twin[T]) do(t *testing.T, r *rand.Rand, x T) {
	t.Helper()
	switch n := r.Intn(40); {
	case n == 0:
		w.clear(t)
	case n < 22:
		w.put(t, x)
	default:
		w.take(t)
	}
}

// P14, what follows: what is put is taken in that order: over all short rows of
// calls.
func TestAllShortRows(t *testing.T) {
	const long, calls = 9, 3
	rows := 1
	for range long {
		rows *= calls
	}
	for _, slots := range l(-1, 0, 1, 2, 3, 4, math.MaxInt) {
		for row := range rows {
			w := newTwin[int](slots)
			for k := range long {
				switch row % calls {
				case 0:
					w.put(t, k+1)
				case 1:
					w.take(t)
				case 2:
					w.clear(t)
				}
				row /= calls
			}
			w.alike(t)
		}
	}
}

// P14, what follows: over all rows of Puts and Takes that are a little longer.
func TestAllRowsOfTwo(t *testing.T) {
	const long = 14
	for slots := range 7 {
		for row := range 1 << long {
			w := newTwin[int](slots)
			for k := range long {
				if row>>k&1 > 0 {
					w.put(t, k+1)
				} else {
					w.take(t)
				}
			}
			w.alike(t)
		}
	}
}

// P14, what follows: over drawn calls, that now fill the ring and now empty it.
func TestDrawn(t *testing.T) {
	r := rand.New(rand.NewSource(2))
	for range 400 {
		slots := []int{0, -1, 1, 2, 3, 4, 5, 7, 8, 9, 16, 31, 33, 100, math.MaxInt}[r.Intn(15)]
		w := newTwin[int](slots)
		fills := 3
		for n := range 1000 {
			if n%50 == 0 {
				fills = 1 + r.Intn(5)
			}
			switch {
			case r.Intn(200) == 0:
				w.clear(t)
			case r.Intn(6) < fills:
				w.put(t, r.Int())
			default:
				w.take(t)
			}
			if r.Intn(4) == 0 {
				w.alike(t)
			}
		}
		w.alike(t)
	}
}

// P1: what is answered hangs on what was asked ahead, and on nothing else: the
// same calls once more have the same answers.
func TestSameCalls(t *testing.T) {
	for seed := range int64(50) {
		first, second := told(seed), told(seed)
		if !slices.Equal(first, second) {
			t.Fatalf("calls drawn from %d: two rings differ", seed)
		}
	}
}

// told are all answers to some calls, one behind the other.
func told(seed int64) []int {
	r := rand.New(rand.NewSource(seed))
	ring := New[int](r.Intn(6))
	var list []int
	truth := func(is bool) {
		if is {
			list = append(list, 1)
		} else {
			list = append(list, 0)
		}
	}
	for range 500 {
		switch r.Intn(8) {
		case 0:
			list = append(list, ring.All()...)
		case 1:
			list = append(list, ring.Len(), ring.Slots())
			truth(ring.Full())
		case 2, 3, 4:
			truth(ring.Put(r.Intn(100)))
		case 5, 6:
			x, ok := ring.Take()
			list = append(list, x)
			truth(ok)
		case 7:
			if r.Intn(4) == 0 {
				list = append(list, ring.Clear()...)
			}
		}
	}
	return list
}
