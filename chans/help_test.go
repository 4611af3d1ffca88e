package chans

import (
	"math"
	"slices"
	"testing"
	"time"

	"pipewright/api"
)

// noTasks are those that no end is brought to.
var noTasks = []int{-1, api.HomeDropped, -3, -1 << 31, -1 << 32, math.MinInt + 1, math.MinInt}

// tasks are some of all those that there may be.
var tasks = []int{0, 1, 2, 7, 1 << 31, 1 << 32, math.MaxInt - 1, math.MaxInt}

func l(numbers ...int) []int { return numbers }

func num(n int64) api.Item { return api.Item{N: n, End: -1} }

func end(e int) api.Item { return api.Item{End: e} }

func items(list ...api.Item) []api.Item { return list }

// send, recv: ends of a channel that a task (or HomeRing) has.
func send(channel, home int) api.End { return api.End{Chan: channel, Send: true, Home: home} }

func recv(channel, home int) api.End { return api.End{Chan: channel, Home: home} }

// went is an end that was dropped so often.
func went(e api.End, drops int) api.End {
	e.Home, e.Drops = api.HomeDropped, drops
	return e
}

// state is all that a store tells.
type state struct {
	ends  []api.End
	chans []api.Chan
}

func (s state) same(other state) bool {
	return slices.Equal(s.ends, other.ends) && slices.EqualFunc(s.chans, other.chans, sameChan)
}

func sameChan(a, b api.Chan) bool {
	return a.Slots == b.Slots && a.Senders == b.Senders && a.Gone == b.Gone && slices.Equal(a.Items, b.Items)
}

func stateOf(s *Store) state { return state{s.All(), s.Chans()} }

// holds: the store is in that state, in all that it tells without a change,
// however often it is asked.
func holds(t *testing.T, s *Store, want state) {
	t.Helper()
	for range 2 {
		if got := stateOf(s); !got.same(want) {
			t.Fatalf("the store is\n%+v, want\n%+v", got, want)
		}
		for e, x := range want.ends {
			if got, ok := s.End(e); !ok || got != x {
				t.Fatalf("End(%d): %v %v, want %v", e, got, ok, x)
			}
			if got := s.Waits(e); got != want.waits(e) {
				t.Fatalf("Waits(%d): %v in %+v", e, got, want)
			}
		}
	}
}

// waits is point 3, out of what a store tells.
func (s state) waits(e int) bool {
	if e < 0 || e >= len(s.ends) || s.ends[e].Drops > 0 {
		return false
	}
	c := s.chans[s.ends[e].Chan]
	if s.ends[e].Send {
		return !c.Gone && c.Slots > 0 && len(c.Items) >= c.Slots
	}
	return len(c.Items) == 0 && c.Senders > 0
}

// stays: what is done changes nothing.
func stays(t *testing.T, s *Store, do func()) {
	t.Helper()
	before := stateOf(s)
	do()
	holds(t, s, before)
}

// noEnds are numbers that no end of the store has.
func noEnds(s *Store) []int {
	n := len(s.All())
	return l(-1, -2, -n-1, math.MinInt, math.MinInt+1, -1<<32, n, n+1, 2*n+1, 1<<31, 1<<32, math.MaxInt-1, math.MaxInt)
}

func makes(t *testing.T, s *Store, slots, task, wantSend, wantRecv int) {
	t.Helper()
	if a, b := s.Make(slots, task); a != wantSend || b != wantRecv {
		t.Fatalf("Make(%d, %d): %d %d, want %d %d", slots, task, a, b, wantSend, wantRecv)
	}
}

func clones(t *testing.T, s *Store, e, task, want int) {
	t.Helper()
	if got := s.Clone(e, task); got != want {
		t.Fatalf("Clone(%d, %d): %d, want %d", e, task, got, want)
	}
}

func waits(t *testing.T, s *Store, e int, want bool) {
	t.Helper()
	if s.Waits(e) != want {
		t.Fatalf("Waits(%d): %v", e, !want)
	}
}

func puts(t *testing.T, s *Store, e int, x api.Item, want bool) {
	t.Helper()
	if s.Put(e, x) != want {
		t.Fatalf("Put(%d, %v): %v", e, x, !want)
	}
}

func takes(t *testing.T, s *Store, e, task int, want api.Item, wantHow int) {
	t.Helper()
	if x, how := s.Take(e, task); x != want || how != wantHow {
		t.Fatalf("Take(%d, %d): %v %d, want %v %d", e, task, x, how, want, wantHow)
	}
}

func drops(t *testing.T, s *Store, e int, want bool) {
	t.Helper()
	if s.Drop(e) != want {
		t.Fatalf("Drop(%d): %v", e, !want)
	}
}

// goes: the end is dropped, and these go, in that order.
func goes(t *testing.T, s *Store, e int, want ...int) {
	t.Helper()
	if got := s.dropWith(e); !slices.Equal(got, want) {
		t.Fatalf("with %d go %v, want %v", e, got, want)
	}
}

// channels is a store with so many channels of any number of slots, all ends of
// which the task 0 has: those of the channel c are 2c and 2c + 1.
func channels(t *testing.T, n int) *Store {
	t.Helper()
	s := New()
	for c := range n {
		makes(t, s, 0, 0, 2*c, 2*c+1)
	}
	return s
}

// inTime fails where something takes far longer than it should.
func inTime(t *testing.T, what string, do func()) {
	t.Helper()
	begun := time.Now()
	do()
	if took := time.Since(begun); took > 20*time.Second {
		t.Errorf("%s: %v", what, took)
	}
}
