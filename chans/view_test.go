package chans

import (
	"slices"
	"testing"

	"pipewright/api"
)

// Chans: all channels, as they are.
func TestChans(t *testing.T) {
	s := New()
	if list := s.Chans(); len(list) > 0 {
		t.Fatalf("Chans of nothing: %v", list)
	}
	makes(t, s, 3, 0, 0, 1)
	makes(t, s, -5, 0, 2, 3)
	makes(t, s, 1, 0, 4, 5)
	clones(t, s, 2, 0, 6)
	puts(t, s, 0, num(4), true)
	puts(t, s, 0, end(6), true)
	puts(t, s, 2, num(-4), true)
	puts(t, s, 4, num(1), true)
	drops(t, s, 5, true)
	drops(t, s, 4, true)
	want := []api.Chan{
		{Slots: 3, Senders: 1, Items: items(num(4), end(6))},
		{Senders: 2, Items: items(num(-4))},
		{Slots: 1, Gone: true},
	}
	if got := s.Chans(); !slices.EqualFunc(got, want, sameChan) {
		t.Fatalf("Chans: %v, want %v", got, want)
	}
}

// scribble writes over a list, and over what lies behind it in its memory.
func scribble[T any](list []T, x T) {
	list = list[:cap(list)]
	for k := range list {
		list[k] = x
	}
	_ = append(list[:0], x)
}

var (
	strangeEnd  = api.End{Chan: -99, Send: true, Home: -99, Drops: -99}
	strangeItem = api.Item{N: -99, End: 99}
	strangeChan = api.Chan{Slots: -99, Senders: -99, Gone: true, Items: []api.Item{{N: -99, End: -99}}}
)

// some is a store with n channels in which so many items lie, some of them gone.
func some(t *testing.T, n int) *Store {
	s := channels(t, n)
	for c := range n {
		for k := range c {
			puts(t, s, 2*c, num(int64(k)), true)
			if k%3 == 2 {
				takes(t, s, 2*c+1, 0, num(int64(k/3)), 1)
			}
		}
		if c%4 == 3 {
			drops(t, s, 2*c+1, true)
		}
	}
	return s
}

// deep is a copy of which nothing is shared.
func deep(s state) state {
	s.ends, s.chans = slices.Clone(s.ends), slices.Clone(s.chans)
	for c := range s.chans {
		s.chans[c].Items = slices.Clone(s.chans[c].Items)
	}
	return s
}

func spoil(s state) {
	scribble(s.ends, strangeEnd)
	for _, c := range s.chans {
		scribble(c.Items, strangeItem)
	}
	scribble(s.chans, strangeChan)
}

// What is answered is new memory: what is done to it changes neither the store
// nor another answer.
func TestAnswersAreScribbledOn(t *testing.T) {
	for n := range 14 {
		s := some(t, n)
		want := deep(stateOf(s))
		one, other := stateOf(s), stateOf(s)
		spoil(one)
		if !other.same(want) {
			t.Fatalf("two answers share memory: %v, want %v", other, want)
		}
		holds(t, s, want)
		scribble(s.Of(0), -99)
		holds(t, s, want)
		s.Make(1, 0)
		s.Put(0, num(8))
		want = deep(stateOf(s))
		spoil(other)
		holds(t, s, want)
	}
}

// No two lists of one answer share memory.
func TestAnswerSharesNothing(t *testing.T) {
	s := some(t, 14)
	list := s.Chans()
	for c := range list {
		want := deep(state{nil, list})
		scribble(list[c].Items, strangeItem)
		for k := range list {
			if k != c && !sameChan(list[k], want.chans[k]) {
				t.Fatalf("the items of %d and %d share memory", c, k)
			}
		}
	}
}

// And what is done to the store later does not change it.
func TestAnswersStay(t *testing.T) {
	for n := range 14 {
		s := some(t, n)
		got := stateOf(s)
		want := deep(got)
		for e := range 2 * n {
			s.Put(e, num(77))
			s.Clone(e, 3)
			s.Take(e, 2)
			s.Put(e, end(2*n-1-e))
		}
		for e := range 2 * n {
			s.Drop(2*n - 1 - e)
			s.Make(e, e)
		}
		if !got.same(want) {
			t.Fatalf("an answer changed: %v, was %v", got, want)
		}
	}
}
