package mean

import (
	"fmt"
	"strings"
	"testing"

	"pipewright/api"
)

// twin is a mean, and plain lists of what it should tell.
type twin struct {
	*author
	mean  *Mean
	plain *plain
}

func (a *author) twin(t *testing.T, p api.Program) *twin {
	t.Helper()
	in := a.inputs()
	return &twin{a, begunOf(t, p, in...), newPlain(p, in)}
}

// step picks a task, as it is drawn: mostly one that is ready.
func (x *twin) step(t *testing.T) {
	t.Helper()
	k := x.pickOf(len(x.plain.tasks))
	if list := x.plain.ready(); len(list) > 0 && x.Intn(5) > 0 {
		k = pick(x.author, list)
	}
	if got, want := x.mean.Step(k), x.plain.step(k); got != want {
		t.Fatalf("Step(%d): %v", k, got)
	}
}

// some is an end to send or to receive that a task has, if it finds one.
func (x *twin) someEnd(send bool) int {
	for _, e := range x.Perm(len(x.plain.ends)) {
		if end := x.plain.ends[e]; end.Send == send && end.Home >= 0 {
			return e
		}
	}
	return -1
}

// call asks for one of the Store's own calls, as it is drawn.
func (x *twin) call(t *testing.T) {
	t.Helper()
	m, p := x.mean, x.plain
	e, task := x.Intn(len(p.ends)+2)-1, x.Intn(len(p.tasks)+2)-1
	item := api.Item{N: x.number(), End: -1 - x.Intn(2)}
	if x.Intn(4) > 0 {
		e, item.End = x.someEnd(true), x.someEnd(x.Intn(2) == 0)
	}
	fits := true
	switch n := x.Intn(40); {
	case n == 0:
		slots := x.Intn(4) - 1
		a, b := m.Make(slots, task)
		c, d := p.make(slots, task)
		fits = a == c && b == d
	case n == 1:
		fits = m.Clone(e, task) == p.clone(e, task)
	case n < 4:
		a, b := m.Take(e, task)
		c, d := p.take(e, task)
		fits = a == c && b == d
	case n == 4:
		fits = m.Drop(e) == p.drop(e)
	case n < 8:
		fits = m.Waits(e) == p.waits(e)
	case n < 24:
		fits = m.Put(e, api.Item{N: item.N, End: -1}) == p.put(e, api.Item{N: item.N, End: -1})
	default:
		fits = m.Put(e, item) == p.put(e, item)
	}
	if !fits {
		t.Fatalf("a call of the store (%d, %d, %v) is answered in another way", e, task, item)
	}
}

// wantSeen asks that each of these came often enough.
func wantSeen(t *testing.T, seen map[string]int, least int, what string) {
	t.Helper()
	var few []string
	for name := range strings.SplitSeq(what, ", ") {
		if seen[name] < least {
			few = append(few, fmt.Sprint(name, ": ", seen[name]))
		}
	}
	if len(few) > 0 {
		t.Errorf("too few: %v; all: %v", few, seen)
	}
}

// allThatComes of deeds; the numbers are states of tasks, what Take says, how
// many parameters there are, and how many ends are left behind.
const allThatComes = "no step 0, no step 2, no step 3, " +
	"send waits, drain waits, take waits, for waits, " +
	"let, set, clone, turn, empty block, send of a number true, send of an end true, close true, abandon true, " +
	"drain 1 false, drain 1 true, drain 0 false, take 1 false, take 1 true, take 0 false, for 1 false, for 1 true, for 0 false, " +
	"if true, if false, repeat below 0 true, repeat below 0 false, repeat above true, repeat above false, " +
	"spawn of 0, spawn of 1, spawn of 2, spawn of 3, exit 0, exit 1, exit 2, " +
	"send none A, send sent A, send moved A, send none E, send gone E, send moved E, " +
	"close none A, close twice A, close owner A, abandon twice A, abandon owner A, drain twice A, drain owner A, " +
	"clone none B, clone gone B, clone moved B, take gone B, take moved B, for gone B, for moved B, " +
	"spawn none E, spawn gone E, spawn moved E, spawn moved the same"

// onlyOfOthers comes where others put things of another type into channels.
const onlyOfOthers = "abandon none A, drain none A, take none B, for none B"

// rounds goes through many programs; now and then, if calls is not 0, others
// call the store.
func rounds(t *testing.T, seed int64, n, calls int, next func(a *author) api.Program) map[string]int {
	t.Helper()
	seen := map[string]int{}
	a := newAuthor(seed)
	for round := range n {
		x := a.twin(t, next(a))
		x.plain.alike(t, x.mean)
		for range 20 + a.Intn(40+round%5*60) {
			if calls > 0 && a.Intn(calls) == 0 {
				x.call(t)
			} else {
				x.step(t)
			}
			x.plain.alike(t, x.mean)
			if len(x.plain.ready()) == 0 && a.Intn(5) == 0 {
				break
			}
		}
		for what, n := range x.plain.seen {
			seen[what] += n
		}
		x.plain.close()
	}
	return seen
}

// P19: drawn programs and drawn picks, one behind the other.
func TestDrawn(t *testing.T) {
	wantSeen(t, rounds(t, 1, 40000, 0, (*author).program), 10, allThatComes)
}

// P19: the same, while others call the store.
func TestDrawnWithCalls(t *testing.T) {
	wantSeen(t, rounds(t, 2, 40000, 4, (*author).program), 10, allThatComes+", "+onlyOfOthers)
}

// P19: programs most of which are right, or nearly so, and go on for longer.
func TestDrawnTidyOnes(t *testing.T) {
	texts := append(tidied(3, 2000), woven(4, 2000)...)
	seen := rounds(t, 5, len(texts), 0, func(a *author) api.Program {
		src := texts[0]
		texts = texts[1:]
		return parsed(t, src)
	})
	wantSeen(t, seen, 150, "send waits, drain waits, take waits, for waits, send of a number true, send of an end true, drain 1 false, drain 0 false, take 1 false, take 0 false, for 1 false, for 1 true, for 0 false, turn, if true, if false, spawn of 1, spawn of 2, spawn of 3, exit 0")
}

// P1
func FuzzMean(f *testing.F) {
	for n := range int64(20) {
		f.Add(n, uint8(n), uint8(3*n))
	}
	f.Fuzz(func(t *testing.T, seed int64, deeds, calls uint8) {
		a := newAuthor(seed)
		p := a.program()
		x := a.twin(t, p)
		defer x.plain.close()
		y := a.pair(t, p)
		for range deeds {
			x.step(t)
			y.draw(t)
			if a.Intn(8) < int(calls)%4 {
				x.call(t)
				y.call(t)
			}
			x.plain.alike(t, x.mean)
			y.alike(t)
		}
	})
}
