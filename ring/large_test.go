package ring

import "testing"

// P1: each call ends soon, of a ring that has very many things, too.
func TestManyThings(t *testing.T) {
	const many = 4_000_000
	for _, slots := range l(0, many, many+1) {
		inTime(t, "many things", func() {
			r := New[int](slots)
			for n := range many {
				if !r.Put(n) {
					t.Fatalf("Put %d in %d slots: false", n, slots)
				}
			}
			if r.Len() != many || r.Full() != (slots == many) {
				t.Fatalf("Len %d, Full %v", r.Len(), r.Full())
			}
			// It goes round once, full as it is.
			for n := range many {
				if x, ok := r.Take(); !ok || x != n || !r.Put(n+many) {
					t.Fatalf("Take: %d %v, want %d", x, ok, n)
				}
			}
			for k, x := range r.All() {
				if x != k+many {
					t.Fatalf("All: %d at %d", x, k)
				}
			}
			for n := range many {
				if x, ok := r.Take(); !ok || x != n+many {
					t.Fatalf("Take: %d %v, want %d", x, ok, n+many)
				}
			}
			hasNone(t, r)
			holds(t, r, slots)
		})
	}
}

// P1: a few things, very many calls.
func TestManyCalls(t *testing.T) {
	for _, slots := range l(0, 1, 3, 1<<40) {
		inTime(t, "many calls", func() {
			r := New[string](slots)
			for range 5_000_000 {
				if !r.Put("a") {
					t.Fatal("Put: false")
				}
				if x, ok := r.Take(); !ok || x != "a" {
					t.Fatalf("Take: %q %v", x, ok)
				}
			}
			for range 1_000_000 {
				r.Take()
				r.Clear()
			}
			holds(t, r, slots)
		})
	}
}

// P1: very many rings, most of them empty, need little.
func TestManyRings(t *testing.T) {
	inTime(t, "many rings", func() {
		rings := make([]*Ring[[100]int], 500_000)
		for k := range rings {
			rings[k] = New[[100]int](1 << 20)
			if k%1000 == 0 {
				puts(t, rings[k], [100]int{k})
			}
		}
		for k, r := range rings {
			if k%1000 == 0 {
				takes(t, r, [100]int{k})
			}
			if r.Len() != 0 || r.Slots() != 1<<20 {
				t.Fatalf("ring %d: Len %d, Slots %d", k, r.Len(), r.Slots())
			}
		}
	})
}
