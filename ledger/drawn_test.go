package ledger

import (
	"math"
	"math/rand"
	"slices"
	"testing"

	"pipewright/api"
)

// twin is a ledger, and a plain list of what it should have.
type twin struct {
	ledger *Ledger
	list   []api.End
}

func newTwin() *twin { return &twin{ledger: New()} }

func (w *twin) alike(t *testing.T) {
	t.Helper()
	holds(t, w.ledger, w.list...)
}

// at is the end of the list; nil: there is none.
func (w *twin) at(e int) *api.End {
	for k := range w.list {
		if k == e {
			return &w.list[k]
		}
	}
	return nil
}

func (w *twin) born(t *testing.T, channel int, send bool, home int) {
	t.Helper()
	want := -1
	if home == api.HomeRing || home > api.HomeRing {
		want = len(w.list)
		w.list = append(w.list, api.End{Chan: channel, Send: send, Home: home})
	}
	born(t, w.ledger, channel, send, home, want)
}

func (w *twin) move(t *testing.T, e, home int) {
	t.Helper()
	end := w.at(e)
	may := end != nil && home > api.HomeDropped && end.Drops == 0
	if may {
		end.Home = home
	}
	moves(t, w.ledger, e, home, may)
}

func (w *twin) gone(t *testing.T, e int) {
	t.Helper()
	end := w.at(e)
	was := end != nil && end.Drops == 0
	if end != nil {
		end.Drops++
		end.Home = api.HomeDropped
	}
	goes(t, w.ledger, e, was)
}

// wrong is what point 4 says, as a table.
func (w *twin) wrong(e, task, what int) int {
	row := 0 // Through, Drops, others
	if what == 2 {
		row = 1
	} else if what != 1 {
		row = 2
	}
	end := w.at(e)
	switch {
	case end == nil:
		return api.EventNone
	case end.Drops > 0:
		return []int{api.EventSent, api.EventTwice, api.EventGone}[row]
	case end.Home == task:
		return 0
	}
	return []int{api.EventMoved, api.EventOwner, api.EventMoved}[row]
}

func (w *twin) use(t *testing.T, e, task, what int) {
	t.Helper()
	use(t, w.ledger, e, task, what, w.wrong(e, task, what))
}

// number is mostly a small one, and sometimes one of the edges.
func number(r *rand.Rand, below int) int {
	if r.Intn(20) == 0 {
		return numbers[r.Intn(len(numbers))]
	}
	return r.Intn(below+3) - 2
}

// do asks for one thing or another, as it is drawn.
func (w *twin) do(t *testing.T, r *rand.Rand) {
	t.Helper()
	e := number(r, len(w.list)+1)
	switch n := r.Intn(20); {
	case n < 5:
		w.born(t, number(r, 6), r.Intn(2) == 0, number(r, 5))
	case n < 11:
		w.move(t, e, number(r, 5))
	case n < 13:
		w.gone(t, e)
	case n < 17:
		w.use(t, e, number(r, 5), number(r, 6))
	default:
		home := number(r, 6)
		of(t, w.ledger, home, living(w.list, home)...)
	}
}

// P15: drawn calls, one behind the other.
func TestDrawn(t *testing.T) {
	r := rand.New(rand.NewSource(1))
	for range 400 {
		w := newTwin()
		for range 30 + r.Intn(200) {
			w.do(t, r)
			if r.Intn(4) == 0 {
				w.alike(t)
			}
		}
		w.alike(t)
	}
}

// P15: over all short rows of calls that change something, or are refused.
func TestAllShortRows(t *testing.T) {
	const long = 5
	calls := []func(w *twin){
		func(w *twin) { w.born(t, 1, true, 0) },
		func(w *twin) { w.born(t, 2, false, api.HomeRing) },
		func(w *twin) { w.born(t, 3, false, api.HomeDropped) },
		func(w *twin) { w.move(t, 0, 1) },
		func(w *twin) { w.move(t, 0, api.HomeRing) },
		func(w *twin) { w.move(t, 1, api.HomeDropped) },
		func(w *twin) { w.move(t, 1, 0) },
		func(w *twin) { w.gone(t, 0) },
		func(w *twin) { w.gone(t, 1) },
	}
	rows := 1
	for range long {
		rows *= len(calls)
	}
	for row := range rows {
		w := newTwin()
		for range long {
			calls[row%len(calls)](w)
			row /= len(calls)
		}
		w.alike(t)
		for what := range 5 {
			w.use(t, 0, 0, what)
			w.use(t, 1, api.HomeRing, what)
		}
	}
}

// P1: no call panics, and all are answered as the list says, of numbers of all
// kinds everywhere.
func TestEdges(t *testing.T) {
	edges := l(math.MinInt, math.MinInt+1, -1<<32, -4, -3, -2, -1, 0, 1, 2, 3, 4, 5, 1<<32, math.MaxInt-1, math.MaxInt)
	w := newTwin()
	for _, a := range edges {
		for _, b := range edges {
			w.born(t, a, b < 0, b)
			w.move(t, b, a)
			for _, c := range edges {
				w.use(t, a, b, c)
			}
		}
		w.gone(t, a)
		of(t, w.ledger, a, living(w.list, a)...)
		w.alike(t)
	}
}

// P1: what is answered hangs on what was asked ahead, and on nothing else: the
// same calls once more have the same answers, also if calls that change nothing
// stand in between.
func TestSameCalls(t *testing.T) {
	for seed := range int64(50) {
		first, second, third := told(seed, false), told(seed, false), told(seed, true)
		if !slices.Equal(first, second) || !slices.Equal(first, third) {
			t.Fatalf("calls drawn from %d: ledgers differ", seed)
		}
	}
}

// told are all answers to some calls, one behind the other.
func told(seed int64, between bool) []api.End {
	r := rand.New(rand.NewSource(seed))
	g := New()
	var list []api.End
	say := func(n int, is bool) { list = append(list, api.End{Chan: n, Send: is}) }
	for range 300 {
		e, home := number(r, 12), number(r, 5)
		switch r.Intn(6) {
		case 0:
			say(g.Born(e, r.Intn(2) == 0, home), false)
		case 1, 2:
			say(0, g.Move(e, home))
		case 3:
			say(0, g.Gone(e))
		case 4:
			say(g.Use(e, home, r.Intn(5)), false)
		case 5:
			list = append(list, g.All()...)
			for _, n := range g.Of(home) {
				say(n, true)
			}
		}
		if between {
			g.Use(e, home, Drops)
			g.End(e)
			g.Of(home)
			g.All()
		}
	}
	return list
}
