package chans

import (
	"math"
	"math/rand"
	"slices"
	"testing"

	"pipewright/api"
)

// twin is a store, and plain lists of what it should have.
type twin struct {
	store *Store
	want  state
}

func newTwin() *twin { return &twin{store: New()} }

func (w *twin) alike(t *testing.T) {
	t.Helper()
	holds(t, w.store, w.want)
}

// at is the end of the list; nil: there is none.
func (w *twin) at(e int) *api.End {
	for k := range w.want.ends {
		if k == e {
			return &w.want.ends[k]
		}
	}
	return nil
}

// usable: is it an end of that kind that was not dropped?
func (w *twin) usable(e int, send bool) bool {
	x := w.at(e)
	return x != nil && x.Send == send && x.Drops == 0
}

func (w *twin) channel(e int) *api.Chan { return &w.want.chans[w.want.ends[e].Chan] }

func (w *twin) make(t *testing.T, slots, task int) {
	t.Helper()
	a, b := -1, -1
	if task >= 0 {
		c := len(w.want.chans)
		a, b = len(w.want.ends), len(w.want.ends)+1
		w.want.ends = append(w.want.ends, send(c, task), recv(c, task))
		w.want.chans = append(w.want.chans, api.Chan{Slots: max(0, slots), Senders: 1})
	}
	makes(t, w.store, slots, task, a, b)
}

func (w *twin) clone(t *testing.T, e, task int) {
	t.Helper()
	want := -1
	if task >= 0 && w.usable(e, true) {
		want = len(w.want.ends)
		w.channel(e).Senders++
		w.want.ends = append(w.want.ends, send(w.want.ends[e].Chan, task))
	}
	clones(t, w.store, e, task, want)
}

func (w *twin) waits(t *testing.T, e int) {
	t.Helper()
	waits(t, w.store, e, w.want.waits(e))
}

func (w *twin) put(t *testing.T, e int, x api.Item) {
	t.Helper()
	may := w.usable(e, true) && !w.want.waits(e)
	if x.End >= 0 {
		thing := w.at(x.End)
		may = may && thing != nil && thing.Home >= 0 && x.End != e
	}
	if may {
		w.putIt(e, x)
	}
	puts(t, w.store, e, x, may)
}

func (w *twin) putIt(e int, x api.Item) {
	c := w.channel(e)
	switch {
	case x.End < 0 && !c.Gone:
		c.Items = append(c.Items, num(x.N))
	case x.End >= 0:
		w.want.ends[x.End].Home = api.HomeRing
		if c.Gone {
			w.dropped(x.End)
		} else {
			c.Items = append(c.Items, end(x.End))
		}
	}
}

func (w *twin) take(t *testing.T, e, task int) {
	t.Helper()
	var x api.Item
	how := -1
	if task >= 0 && w.usable(e, false) && !w.want.waits(e) {
		c := w.channel(e)
		how = 0
		if len(c.Items) > 0 {
			how = 1
			x, c.Items = c.Items[0], c.Items[1:]
			if thing := w.at(x.End); thing != nil && thing.Drops == 0 {
				thing.Home = task
			}
		}
	}
	takes(t, w.store, e, task, x, how)
}

// dropped does what point 6 says, by its words, and answers what went.
func (w *twin) dropped(e int) (went []int) {
	x := w.at(e)
	if x == nil {
		return nil
	}
	x.Drops++
	if x.Home == api.HomeDropped {
		return nil
	}
	x.Home = api.HomeDropped
	went = l(e)
	c := w.channel(e)
	if x.Send {
		c.Senders--
		return went
	}
	lay := c.Items
	c.Gone, c.Items = true, nil
	for _, x := range lay {
		went = append(went, w.dropped(x.End)...)
	}
	return went
}

func (w *twin) drop(t *testing.T, e int) {
	t.Helper()
	drops(t, w.store, e, len(w.dropped(e)) > 0)
}

// dropInOrder is the same, and looks at the order in which they go.
func (w *twin) dropInOrder(t *testing.T, e int) []int {
	t.Helper()
	want := w.dropped(e)
	goes(t, w.store, e, want...)
	return want
}

var edges = l(math.MinInt, math.MinInt+1, -1<<32, -3, -2, -1, 0, 1, 2, 5, 1<<32, math.MaxInt-1, math.MaxInt)

// number is mostly a small one, and sometimes one of the edges.
func number(r *rand.Rand, below int) int {
	if r.Intn(30) == 0 {
		return edges[r.Intn(len(edges))]
	}
	return r.Intn(below+2) - 1
}

// item is a number, or an end, as it is drawn.
func item(r *rand.Rand, ends int) api.Item {
	if r.Intn(3) == 0 {
		return api.Item{N: int64(number(r, 100)), End: -1 - r.Intn(3)}
	}
	return api.Item{N: int64(r.Intn(2) * 9), End: number(r, ends)}
}

// do asks for one thing or another, as it is drawn: seldom for a drop, so that
// something comes to lie within something.
func (w *twin) do(t *testing.T, r *rand.Rand, rareDrops int) {
	t.Helper()
	n := len(w.want.ends)
	e := number(r, n)
	switch k := r.Intn(20 + rareDrops); {
	case k < 2 && n < 40 || n == 0:
		w.make(t, number(r, 4), number(r, 4))
	case k < 4 && n < 40:
		w.clone(t, e, number(r, 4))
	case k == 5:
		w.waits(t, e)
	case k < 9:
		w.take(t, e, number(r, 4))
	case k == 9:
		w.drop(t, e)
	case k == 10:
		w.dropInOrder(t, e)
	default:
		w.put(t, e, item(r, n))
	}
}

// P16: drawn calls, one behind the other.
func TestDrawn(t *testing.T) {
	r := rand.New(rand.NewSource(1))
	for round := range 600 {
		w := newTwin()
		for range 20 + r.Intn(300) {
			w.do(t, r, round%3*20)
			if r.Intn(4) == 0 {
				w.alike(t)
			}
		}
		w.alike(t)
		for range 10 {
			w.dropInOrder(t, number(r, len(w.want.ends)))
		}
		w.alike(t)
	}
}

// P16: over all short rows of calls.
func TestAllShortRows(t *testing.T) {
	const long = 5
	calls := []func(w *twin){
		func(w *twin) { w.make(t, 1, 2) },
		func(w *twin) { w.clone(t, 0, 1) },
		func(w *twin) { w.put(t, 0, num(4)) },
		func(w *twin) { w.put(t, 0, end(1)) },
		func(w *twin) { w.put(t, 0, end(3)) },
		func(w *twin) { w.put(t, 2, end(1)) },
		func(w *twin) { w.put(t, 2, end(0)) },
		func(w *twin) { w.take(t, 1, 5) },
		func(w *twin) { w.take(t, 3, 6) },
		func(w *twin) { w.drop(t, 0) },
		func(w *twin) { w.drop(t, 1) },
		func(w *twin) { w.drop(t, 3) },
	}
	rows := 1
	for range long {
		rows *= len(calls)
	}
	for row := range rows {
		w := newTwin()
		w.make(t, 2, 0)
		w.make(t, 0, 1)
		for range long {
			calls[row%len(calls)](w)
			row /= len(calls)
		}
		w.alike(t)
	}
}

// P1: no call panics, and all are answered as the lists say, of numbers of all
// kinds everywhere.
func TestEdges(t *testing.T) {
	w := newTwin()
	for _, a := range edges {
		for _, b := range edges {
			w.make(t, a, b)
			w.clone(t, a, b)
			w.waits(t, a)
			w.put(t, a, end(b))
			w.put(t, a, api.Item{N: int64(b), End: -1})
			w.put(t, 0, api.Item{N: int64(a), End: b})
			w.take(t, a, b)
			w.take(t, b, a)
		}
		w.alike(t)
	}
	for _, a := range edges {
		w.drop(t, a)
		w.alike(t)
	}
}

// P1: what is answered hangs on what was asked ahead, and on nothing else: the
// same calls once more have the same answers, also if calls that change nothing
// stand in between.
func TestSameCalls(t *testing.T) {
	for seed := range int64(60) {
		first, second, third := told(seed, false), told(seed, false), told(seed, true)
		if !slices.Equal(first, second) || !slices.Equal(first, third) {
			t.Fatalf("calls drawn from %d: stores differ", seed)
		}
	}
}

// told are all answers to some calls, one behind the other.
func told(seed int64, between bool) []int {
	r := rand.New(rand.NewSource(seed))
	s := New()
	var list []int
	say := func(n ...int) { list = append(list, n...) }
	yes := func(is bool) {
		say(slices.Index([]bool{false, true}, is))
	}
	for range 300 {
		e, task := number(r, 16), number(r, 4)
		switch r.Intn(8) {
		case 0:
			a, b := s.Make(e, task)
			say(a, b)
		case 1:
			say(s.Clone(e, task))
		case 2, 3:
			yes(s.Put(e, item(r, 16)))
		case 4:
			x, how := s.Take(e, task)
			say(int(x.N), x.End, how)
		case 5:
			yes(s.Drop(e))
		case 6:
			yes(s.Waits(e))
		case 7:
			for _, c := range s.Chans() {
				say(c.Slots, c.Senders, len(c.Items))
				yes(c.Gone)
			}
		}
		if between {
			s.Waits(e)
			s.Chans()
			s.Make(e, -1)
			s.Clone(e, -1)
			s.Take(e, -1)
			s.Put(e, end(e))
			s.Drop(-1)
		}
	}
	return list
}
