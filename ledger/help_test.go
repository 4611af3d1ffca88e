package ledger

import (
	"math"
	"slices"
	"testing"
	"time"

	"pipewright/api"
)

// noHomes are those that no end is brought to.
var noHomes = []int{api.HomeDropped, -3, -100, -1 << 31, -1 << 32, math.MinInt + 1, math.MinInt}

// homes are those that an end may be brought to.
var homes = []int{api.HomeRing, 0, 1, 2, 7, 1 << 31, 1 << 32, math.MaxInt - 1, math.MaxInt}

// numbers are of all kinds, for channels and tasks.
var numbers = []int{math.MinInt, -1 << 32, -3, -2, -1, 0, 1, 2, 5, 1 << 32, math.MaxInt}

func l(numbers ...int) []int { return numbers }

// noEnds are numbers that no end of the ledger has.
func noEnds(g *Ledger) []int {
	n := len(g.All())
	return l(-1, -2, -n-1, math.MinInt, math.MinInt+1, -1<<32, n, n+1, 2*n+1, 1<<31, 1<<32, math.MaxInt-1, math.MaxInt)
}

// with is a ledger with these ends, made by calls alone.
func with(t *testing.T, ends ...api.End) *Ledger {
	t.Helper()
	g := New()
	for e, end := range ends {
		home := max(end.Home, api.HomeRing)
		if got := g.Born(end.Chan, end.Send, home); got != e {
			t.Fatalf("Born of the end %d: %d", e, got)
		}
		for range end.Drops {
			g.Gone(e)
		}
	}
	holds(t, g, ends...)
	return g
}

// some is a ledger with an end of each kind: of a task, in a channel, dropped
// once, dropped more often, and of a task again.
func some(t *testing.T) (*Ledger, []api.End) {
	t.Helper()
	ends := []api.End{
		{Chan: 3, Send: true, Home: 0},
		{Chan: 3, Home: api.HomeRing},
		{Chan: -4, Send: true, Home: api.HomeDropped, Drops: 1},
		{Chan: 0, Home: api.HomeDropped, Drops: 3},
		{Chan: 9, Home: 2},
		{Chan: 9, Send: true, Home: 0},
	}
	return with(t, ends...), slices.Clone(ends)
}

// holds: the ledger has these ends, in all that it tells without a change,
// however often it is asked.
func holds(t *testing.T, g *Ledger, want ...api.End) {
	t.Helper()
	for range 2 {
		if all := g.All(); !slices.Equal(all, want) {
			t.Fatalf("All: %v, want %v", all, want)
		}
		for e, end := range want {
			if got, ok := g.End(e); !ok || got != end {
				t.Fatalf("End(%d): %v %v, want %v", e, got, ok, end)
			}
			if of := g.Of(end.Home); !slices.Equal(of, living(want, end.Home)) {
				t.Fatalf("Of(%d): %v, want %v", end.Home, of, living(want, end.Home))
			}
		}
		hasNone(t, g, -1, len(want))
	}
}

// living are the ends with that home, found one by one.
func living(ends []api.End, home int) []int {
	var list []int
	for e := range ends {
		if ends[e].Home == home {
			list = append(list, e)
		}
	}
	return list
}

// hasNone: End answers the zero End and false of each of these.
func hasNone(t *testing.T, g *Ledger, list ...int) {
	t.Helper()
	for _, e := range list {
		if end, ok := g.End(e); ok || end != (api.End{}) {
			t.Fatalf("End(%d): %v %v, want none", e, end, ok)
		}
	}
}

func born(t *testing.T, g *Ledger, channel int, send bool, home, want int) {
	t.Helper()
	if e := g.Born(channel, send, home); e != want {
		t.Fatalf("Born(%d, %v, %d): %d, want %d", channel, send, home, e, want)
	}
}

func moves(t *testing.T, g *Ledger, e, home int, want bool) {
	t.Helper()
	if g.Move(e, home) != want {
		t.Fatalf("Move(%d, %d): %v", e, home, !want)
	}
}

func goes(t *testing.T, g *Ledger, e int, want bool) {
	t.Helper()
	if g.Gone(e) != want {
		t.Fatalf("Gone(%d): %v", e, !want)
	}
}

func of(t *testing.T, g *Ledger, home int, want ...int) {
	t.Helper()
	if list := g.Of(home); !slices.Equal(list, want) {
		t.Fatalf("Of(%d): %v, want %v", home, list, want)
	}
}

func use(t *testing.T, g *Ledger, e, task, what, want int) {
	t.Helper()
	if event := g.Use(e, task, what); event != want {
		t.Fatalf("Use(%d, %d, %d): %d, want %d", e, task, what, event, want)
	}
}

// inTime fails where something takes far longer than it should.
func inTime(t *testing.T, what string, do func()) {
	t.Helper()
	begun := time.Now()
	do()
	if took := time.Since(begun); took > 20*time.Second {
		t.Errorf("%s: %v", what, took)
	}
}
