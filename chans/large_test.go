package chans

import (
	"math"
	"testing"

	"pipewright/api"
)

// P1: channels that lie in each other, far deeper than the document's limits,
// go with one Drop.
func TestDeep(t *testing.T) {
	const n = 1 << 18
	inTime(t, "deep", func() {
		s := New()
		for c := range n {
			makes(t, s, 1, 0, 2*c, 2*c+1)
		}
		for c := range n - 1 {
			puts(t, s, 2*c, end(2*c+3), true)
		}
		drops(t, s, 1, true)
		for e, x := range s.All() {
			if x.Drops != e%2 {
				t.Fatalf("the end %d: %v", e, x)
			}
		}
	})
}

// P1: a channel in which very many ends lie.
func TestWide(t *testing.T) {
	const n = 1 << 18
	inTime(t, "wide", func() {
		s := channels(t, 1)
		for k := range n {
			clones(t, s, 0, 1, 2+k)
			puts(t, s, 0, end(2+k), true)
		}
		if c := s.Chans()[0]; c.Senders != n+1 || len(c.Items) != n {
			t.Fatalf("%d senders, %d items", c.Senders, len(c.Items))
		}
		for k := range n / 2 {
			takes(t, s, 1, 2, end(2+k), 1)
		}
		drops(t, s, 1, true)
		if c := s.Chans()[0]; c.Senders != n/2+1 || len(c.Items) > 0 {
			t.Fatalf("%d senders, %d items", c.Senders, len(c.Items))
		}
	})
}

// P1: very many things through few slots, and through very many ones.
func TestMany(t *testing.T) {
	inTime(t, "many", func() {
		for _, slots := range l(0, 1, 3, math.MaxInt) {
			s := New()
			makes(t, s, slots, 0, 0, 1)
			for k := range int64(300000) {
				puts(t, s, 0, num(k), true)
				takes(t, s, 1, 0, num(k), 1)
			}
			drops(t, s, 0, true)
			takes(t, s, 1, 0, api.Item{}, 0)
		}
	})
}
