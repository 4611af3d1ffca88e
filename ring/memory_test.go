package ring

import (
	"runtime"
	"slices"
	"testing"
	"weak"
)

// scribble writes over a list, and over what lies behind it in its memory.
func scribble(list []int) {
	list = list[:cap(list)]
	for k := range list {
		list[k] = -1000 - k
	}
	_ = append(list[:0], -7)
}

// What is answered is new memory: what is done to it does not change the ring.
func TestAnswersAreScribbledOn(t *testing.T) {
	for slots := range 8 {
		for by := range slots + 5 {
			for in := range 8 {
				if slots > 0 && in > slots {
					continue
				}
				r := turned(t, slots, by)
				puts(t, r, upTo(0, in)...)
				all, once := r.All(), r.All()
				scribble(all)
				if !slices.Equal(once, upTo(0, in)) {
					t.Fatalf("two answers of All share memory: %v", once)
				}
				holds(t, r, slots, upTo(0, in)...)
				gone := r.Clear()
				scribble(once)
				if !slices.Equal(gone, upTo(0, in)) {
					t.Fatalf("Clear shares memory with All: %v", gone)
				}
				puts(t, r, upTo(20, 20+in)...)
				scribble(gone)
				holds(t, r, slots, upTo(20, 20+in)...)
				takes(t, r, upTo(20, 20+in)...)
			}
		}
	}
}

// And what is done to the ring later does not change it.
func TestAnswersStay(t *testing.T) {
	for slots := range 8 {
		for by := range slots + 5 {
			for in := range 8 {
				if slots > 0 && in > slots {
					continue
				}
				r := turned(t, slots, by)
				puts(t, r, upTo(0, in)...)
				all := r.All()
				takes(t, r, upTo(0, in)...)
				stays(t, all, in)
				puts(t, r, upTo(0, in)...)
				gone := r.Clear()
				for n := range 40 {
					r.Put(100 + n)
					stays(t, all, in)
					stays(t, gone, in)
				}
				for range 40 {
					r.Take()
					r.Put(7)
				}
				r.Clear()
				r.Put(8)
				stays(t, all, in)
				stays(t, gone, in)
			}
		}
	}
}

func stays(t *testing.T, list []int, in int) {
	t.Helper()
	if !slices.Equal(list, upTo(0, in)) {
		t.Fatalf("an answer changed: %v", list)
	}
}

// A list whose things are put is the caller's own, before and behind.
func TestPutKeepsNoList(t *testing.T) {
	list := upTo(0, 10)
	r := New[int](0)
	puts(t, r, list...)
	scribble(list)
	holds(t, r, 0, upTo(0, 10)...)
	things := []pair{{name: "a"}, {name: "b"}}
	s := New[pair](2)
	puts(t, s, things...)
	things[0].name = "c"
	holds(t, s, 2, pair{name: "a"}, pair{name: "b"})
	x, _ := s.Take()
	x.name = "d"
	holds(t, s, 2, pair{name: "b"})
}

// watched puts things that nothing else has, and tells which they are.
func watched(r *Ring[*[64]int], n int) []weak.Pointer[[64]int] {
	var list []weak.Pointer[[64]int]
	for k := range n {
		x := &[64]int{k}
		list = append(list, weak.Make(x))
		r.Put(x)
	}
	return list
}

// freed tells how many of them nothing has any more.
func freed(list []weak.Pointer[[64]int]) int {
	for range 3 {
		runtime.GC()
	}
	n := 0
	for _, w := range list {
		if w.Value() == nil {
			n++
		}
	}
	return n
}

// What is gone, by Take or by Clear, the ring keeps no longer; what is in it, it
// does.
func TestGoneIsNotKept(t *testing.T) {
	for _, slots := range l(0, 10, 100) {
		r := New[*[64]int](slots)
		list := watched(r, 10)
		if n := freed(list); n != 0 {
			t.Errorf("%d of 10 are lost", n)
		}
		for range 6 {
			r.Take()
		}
		if n := freed(list); n != 6 {
			t.Errorf("6 are taken, %d of them freed", n)
		}
		more := watched(r, 6)
		if n := freed(more); n != 0 {
			t.Errorf("%d of 6 are lost", n)
		}
		r.Clear()
		if n := freed(list) + freed(more); n != 16 {
			t.Errorf("16 are gone, %d of them freed", n)
		}
		runtime.KeepAlive(r)
	}
}

// A refused thing is not kept, either.
func TestRefusedIsNotKept(t *testing.T) {
	r := New[*[64]int](2)
	list := watched(r, 5)
	if n := freed(list); n != 3 {
		t.Errorf("3 are refused, %d of them freed", n)
	}
	runtime.KeepAlive(r)
}
