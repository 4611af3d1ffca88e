package chans

import (
	"math/rand"
	"slices"
	"testing"

	"pipewright/api"
)

// byTasks is a store after drawn calls as tasks would do them: each uses and
// drops what it has, and nobody drops what lies in a channel.
func byTasks(r *rand.Rand, calls int) *Store {
	s := New()
	s.Make(r.Intn(4), 0)
	for range calls {
		e := r.Intn(len(s.All()))
		x, _ := s.End(e)
		if x.Home < 0 {
			continue
		}
		switch r.Intn(12) {
		case 0, 1:
			s.Make(r.Intn(4), x.Home)
		case 2:
			s.Clone(e, x.Home)
		case 3:
			s.Put(e, num(int64(e)))
		case 4, 5:
			s.Take(e, x.Home)
		case 6:
			s.Drop(e)
		default:
			own := s.Of(x.Home)
			s.Put(e, end(own[r.Intn(len(own))]))
		}
	}
	return s
}

// held are the ends that tasks have.
func held(s *Store) []int {
	var list []int
	for e, x := range s.All() {
		if x.Home >= 0 {
			list = append(list, e)
		}
	}
	return list
}

// lying are the items in channels that are not gone.
func lying(s *Store) []api.Item {
	var list []api.Item
	for _, c := range s.Chans() {
		if !c.Gone {
			list = append(list, c.Items...)
		}
	}
	return list
}

// dropHeld drops all ends that tasks have, in a drawn order, again and again
// till none has any.
func dropHeld(t *testing.T, s *Store, r *rand.Rand) {
	t.Helper()
	for own := held(s); len(own) > 0; own = held(s) {
		drops(t, s, own[r.Intn(len(own))], true)
	}
}

// P16, Once and for all: each end is dropped once, when all that have a task for
// their home were dropped, and nothing lies in a channel that is not gone.
func TestOnceAndForAll(t *testing.T) {
	r := rand.New(rand.NewSource(2))
	all, some := 0, 0
	for range 3000 {
		s := byTasks(r, 10+r.Intn(120))
		dropHeld(t, s, r)
		left := lying(s)
		for e, x := range s.All() {
			if x.Home == api.HomeDropped && x.Drops == 1 {
				continue
			}
			if x.Home != api.HomeRing || x.Drops > 0 || !slices.Contains(left, end(e)) {
				t.Fatalf("the end %d: %v, and in channels lie %v", e, x, left)
			}
		}
		for c, x := range s.Chans() {
			if len(left) == 0 && (x.Senders > 0 || !x.Gone) {
				t.Fatalf("nothing lies anywhere, and the channel %d is %v", c, x)
			}
		}
		if len(left) == 0 {
			all++
		} else {
			some++
		}
	}
	if all < 100 || some < 100 {
		t.Errorf("drawn were %d stores without what lies there, %d with it", all, some)
	}
}

// The same of stores in which something lies in a round still, once somebody
// drops that: each end goes once in all.
func TestEachGoesOnce(t *testing.T) {
	r := rand.New(rand.NewSource(4))
	rounds := 0
	for range 2000 {
		s := byTasks(r, 10+r.Intn(120))
		times := make([]int, len(s.All()))
		count := func(went []int) {
			for _, e := range went {
				times[e]++
			}
		}
		for e, x := range s.All() {
			times[e] = x.Drops
		}
		for own := held(s); len(own) > 0; own = held(s) {
			count(s.dropWith(own[r.Intn(len(own))]))
		}
		for lie := s.Of(api.HomeRing); len(lie) > 0; lie = s.Of(api.HomeRing) {
			rounds++
			count(s.dropWith(lie[r.Intn(len(lie))]))
		}
		for e, n := range times {
			if n != 1 {
				t.Fatalf("the end %d went %d times", e, n)
			}
		}
		for c, x := range s.Chans() {
			if x.Senders != 0 || !x.Gone || len(x.Items) > 0 {
				t.Fatalf("the channel %d is %v", c, x)
			}
		}
	}
	if rounds < 100 {
		t.Errorf("something lay in a round %d times", rounds)
	}
}

// However calls are drawn, an end has but one home: what lies in channels, each
// once, are the ends with the home HomeRing, and some that were dropped there;
// a channel has as many senders as ends to send that were not dropped, and is
// gone if and only if its end to receive was.
func TestOneHome(t *testing.T) {
	r := rand.New(rand.NewSource(5))
	for range 300 {
		w := newTwin()
		for range 200 {
			w.do(t, r, 20)
		}
		oneHome(t, w.store)
	}
}

func oneHome(t *testing.T, s *Store) {
	t.Helper()
	list := s.Chans()
	lies := make([]int, len(s.All()))
	for _, c := range list {
		if c.Gone && len(c.Items) > 0 || c.Slots > 0 && len(c.Items) > c.Slots {
			t.Fatalf("the channel %v", c)
		}
		for _, x := range c.Items {
			if x.End >= 0 {
				lies[x.End]++
			}
		}
	}
	senders := make([]int, len(list))
	for e, x := range s.All() {
		if lies[e] > 1 || x.Home >= 0 && lies[e] > 0 || x.Home == api.HomeRing && lies[e] < 1 {
			t.Fatalf("the end %d, %v, lies in channels %d times", e, x, lies[e])
		}
		if (x.Home == api.HomeDropped) != (x.Drops > 0) {
			t.Fatalf("the end %d: %v", e, x)
		}
		switch {
		case x.Send && x.Drops == 0:
			senders[x.Chan]++
		case !x.Send && list[x.Chan].Gone != (x.Drops > 0):
			t.Fatalf("the end %d, %v, of the channel %v", e, x, list[x.Chan])
		}
	}
	for c, n := range senders {
		if list[c].Senders != n {
			t.Fatalf("the channel %d has %d senders, want %d", c, list[c].Senders, n)
		}
	}
}
