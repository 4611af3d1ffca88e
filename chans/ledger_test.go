package chans

import (
	"math"
	"slices"
	"testing"

	"pipewright/api"
	"pipewright/ledger"
)

// all kinds: 0 is the task 3's, 1 the task 4's, 2 lies in a channel, 3 was
// dropped, 4 twice.
func allKinds(t *testing.T) *Store {
	t.Helper()
	s := New()
	makes(t, s, 1, 3, 0, 1)
	makes(t, s, 1, 3, 2, 3)
	clones(t, s, 0, 3, 4)
	puts(t, s, 0, end(1), true)
	takes(t, s, 1, 4, end(1), 1)
	puts(t, s, 0, end(2), true)
	drops(t, s, 3, true)
	drops(t, s, 4, true)
	drops(t, s, 4, false)
	return s
}

// P15 of a Store: the ledger's calls are its own, and tell the ends as they are.
func TestLedgersCalls(t *testing.T) {
	s := allKinds(t)
	want := []api.End{send(0, 3), recv(0, 4), send(1, api.HomeRing), went(recv(1, 0), 1), went(send(0, 0), 2)}
	if all := s.All(); !slices.Equal(all, want) {
		t.Fatalf("All: %v, want %v", all, want)
	}
	for e, x := range want {
		if got, ok := s.End(e); !ok || got != x {
			t.Errorf("End(%d): %v %v, want %v", e, got, ok, x)
		}
	}
	for _, e := range noEnds(s) {
		if x, ok := s.End(e); ok || x != (api.End{}) {
			t.Errorf("End(%d): %v %v", e, x, ok)
		}
	}
	for _, x := range []struct {
		home int
		want []int
	}{{3, l(0)}, {4, l(1)}, {0, nil}, {5, nil}, {api.HomeRing, l(2)}, {api.HomeDropped, l(3, 4)}, {-3, nil}, {math.MaxInt, nil}, {math.MinInt, nil}} {
		if list := s.Of(x.home); !slices.Equal(list, x.want) {
			t.Errorf("Of(%d): %v, want %v", x.home, list, x.want)
		}
	}
}

// P15.4 of a Store.
func TestUse(t *testing.T) {
	s := allKinds(t)
	for _, x := range []struct{ e, task, through, drops, other int }{
		{0, 3, 0, 0, 0},
		{0, 4, api.EventMoved, api.EventOwner, api.EventMoved},
		{1, 4, 0, 0, 0},
		{1, 3, api.EventMoved, api.EventOwner, api.EventMoved},
		{2, 3, api.EventMoved, api.EventOwner, api.EventMoved},
		{3, 3, api.EventSent, api.EventTwice, api.EventGone},
		{4, 0, api.EventSent, api.EventTwice, api.EventGone},
		{5, 3, api.EventNone, api.EventNone, api.EventNone},
		{-1, 3, api.EventNone, api.EventNone, api.EventNone},
		{math.MaxInt, 3, api.EventNone, api.EventNone, api.EventNone},
	} {
		stays(t, s, func() {
			for what, want := range map[int]int{ledger.Through: x.through, ledger.Drops: x.drops, ledger.Other: x.other, 0: x.other, 4: x.other} {
				if got := s.Use(x.e, x.task, what); got != want {
					t.Errorf("Use(%d, %d, %d): %d, want %d", x.e, x.task, what, got, want)
				}
			}
		})
	}
}

// The store's ledger is the one that it embeds.
func TestOneLedger(t *testing.T) {
	s := allKinds(t)
	if !slices.Equal(s.Ledger.All(), s.All()) {
		t.Errorf("the ledger tells %v, the store %v", s.Ledger.All(), s.All())
	}
}

// P1: of a store whose Born, Move or Gone somebody called nothing else is
// promised, but that no call panics, and every call ends.
func TestForeignEnds(t *testing.T) {
	edges := l(math.MinInt, -3, -2, -1, 0, 1, 2, 3, 4, 5, 6, 1<<32, math.MaxInt)
	for _, channel := range edges {
		for _, home := range edges {
			s := channels(t, 2)
			s.Born(channel, true, home)
			s.Born(channel, false, home)
			s.Put(0, end(3))
			s.Move(3, 0)
			s.Put(2, end(3))
			s.Gone(0)
			for e := -1; e < 8; e++ {
				s.Put(e, end(5))
				s.Put(e, num(1))
				s.Waits(e)
				s.Take(e, 1)
				s.Clone(e, 1)
				s.Put(e, end(4))
				s.Drop(e)
				s.Drop(e)
				s.Put(e, num(1))
			}
			s.Chans()
		}
	}
}
