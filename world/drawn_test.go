package world

import (
	"fmt"
	"math/rand"
	"strings"
	"testing"

	"pipewright/api"
	"pipewright/lower"
)

// twin is a world, and plain lists of what it should tell.
type twin struct {
	*writer
	world *World
	plain *plain
}

func (w *writer) twin(t *testing.T, most int) *twin {
	t.Helper()
	c, in := w.code(most), w.inputs()
	if f := lower.Check(c); f.Code != 0 {
		t.Fatalf("the code may not be run: %v", f)
	}
	return &twin{w, begun(t, c, in...), newPlain(c, in)}
}

// step picks a task, as it is drawn: mostly one that is ready.
func (x *twin) step(t *testing.T) {
	t.Helper()
	k := x.pickOf(len(x.plain.tasks))
	if ready := x.world.Ready(); len(ready) > 0 && x.Intn(5) > 0 {
		k = pick(x.writer, ready)
	}
	if got, want := x.world.Step(k), x.plain.step(k); got != want {
		t.Fatalf("Step(%d): %v", k, got)
	}
}

// some is an end to send or to receive that a task has, if it finds one.
func (x *twin) some(send bool) int {
	for _, e := range x.Perm(len(x.plain.ends)) {
		if end := x.plain.ends[e]; end.Send == send && end.Home >= 0 {
			return e
		}
	}
	return -1
}

// call asks for one of the Store's own calls, as it is drawn.
func (x *twin) call(t *testing.T) {
	t.Helper()
	w, p := x.world, x.plain
	e, task := x.Intn(len(p.ends)+2)-1, x.Intn(len(p.tasks)+2)-1
	item := api.Item{N: x.number(), End: -1 - x.Intn(2)}
	if x.Intn(4) > 0 {
		e, item.End = x.some(true), x.some(x.Intn(2) == 0)
	}
	fits := true
	switch n := x.Intn(40); {
	case n == 0:
		slots := x.Intn(4) - 1
		a, b := w.Make(slots, task)
		c, d := p.make(slots, task)
		fits = a == c && b == d
	case n == 1:
		fits = w.Clone(e, task) == p.clone(e, task)
	case n < 4:
		a, b := w.Take(e, task)
		c, d := p.take(e, task)
		fits = a == c && b == d
	case n == 4:
		fits = w.Drop(e) == p.drop(e)
	case n < 8:
		fits = w.Waits(e) == p.waits(e)
	default:
		fits = w.Put(e, item) == p.put(e, item)
	}
	if !fits {
		t.Fatalf("a call of the store (%d, %d, %v) is answered in another way", e, task, item)
	}
}

// wantSeen asks that each of these came often enough.
func wantSeen(t *testing.T, seen map[string]int, least int, what string) {
	t.Helper()
	var few []string
	for name := range strings.SplitSeq(what, ", ") {
		if seen[name] < least {
			few = append(few, fmt.Sprint(name, ": ", seen[name]))
		}
	}
	if len(few) > 0 {
		t.Errorf("too few: %v; all: %v", few, seen)
	}
}

// allThatComes of steps; the numbers are states of tasks, what Take says, how
// many Args there are, and how many ends are left behind.
const allThatComes = "no step 0, no step 2, no step 3, " +
	"send waits, give waits, drain waits, take waits, " +
	"send none A, send sent A, send moved A, send true, " +
	"give none A, give sent A, give moved A, give none B, give gone B, give moved B, give true, " +
	"close none A, close twice A, close owner A, close true, " +
	"abandon none A, abandon twice A, abandon owner A, abandon true, " +
	"drain none A, drain twice A, drain owner A, drain 1 false, drain 1 true, drain 0 false, " +
	"clone none B, clone gone B, clone moved B, " +
	"take none B, take gone B, take moved B, take 1 false, take 1 true, take 0 false, take to true, " +
	"spawn none V, spawn gone V, spawn moved V, spawn moved the same, " +
	"spawn 0, spawn 1, spawn 2, spawn 3, spawn of a number, spawn of an end, " +
	"turns true, turns false, count to true, count to false, if to true, if to false, jump to true, exit 0, exit 1, exit 2"

// rounds goes through many codes, as they are drawn; now and then, if calls is
// not 0, others call the store.
func rounds(t *testing.T, seed int64, n, calls int) map[string]int {
	t.Helper()
	seen := map[string]int{}
	w := newWriter(seed)
	for round := range n {
		most := 4 + round%3*18
		x := w.twin(t, most)
		x.plain.alike(t, x.world)
		for range 10 + w.Intn(4*most) {
			if calls > 0 && w.Intn(calls) == 0 {
				x.call(t)
			} else {
				x.step(t)
			}
			x.plain.alike(t, x.world)
			if len(x.world.Ready()) == 0 && w.Intn(5) == 0 {
				break
			}
		}
		for what, n := range x.plain.seen {
			seen[what] += n
		}
	}
	return seen
}

// P17: drawn code and drawn picks, one behind the other.
func TestDrawn(t *testing.T) {
	wantSeen(t, rounds(t, 1, 20000, 0), 25, allThatComes)
}

// P17: the same, while others call the store.
func TestDrawnWithCalls(t *testing.T) {
	wantSeen(t, rounds(t, 2, 16000, 3), 25, allThatComes)
}

// P17: of programs, too, whichever task goes on.
func TestDrawnPrograms(t *testing.T) {
	w := newWriter(3)
	for _, src := range programs {
		c := lowered(t, src)
		for range 150 {
			in := w.inputs()
			x := &twin{w, begun(t, c, in...), newPlain(c, in)}
			for range 400 {
				x.step(t)
			}
			x.plain.alike(t, x.world)
		}
	}
}

// P1: what is answered hangs on what was asked ahead: the same picks once more
// come to the same, also if picks that can't be stand in between.
func TestSamePicks(t *testing.T) {
	for seed := range int64(300) {
		w := newWriter(seed)
		c, in := w.code(30), w.inputs()
		one, other := begun(t, c, in...), begun(t, c, in...)
		for range 150 {
			k := w.pickOf(one.Tasks())
			can := one.Step(k)
			for _, n := range noTasks {
				other.Step(n)
				other.Task(n)
			}
			if other.Step(k) != can {
				t.Fatalf("drawn from %d: Step(%d) is %v once only", seed, k, can)
			}
		}
		if a, b := viewOf(one), viewOf(other); a != b {
			t.Fatalf("drawn from %d: %+v, and %+v", seed, a, b)
		}
	}
}

// P1
func FuzzWorld(f *testing.F) {
	for n := range int64(20) {
		f.Add(n, uint8(n))
	}
	f.Fuzz(func(t *testing.T, seed int64, most uint8) {
		x := (&writer{Rand: rand.New(rand.NewSource(seed))}).twin(t, 1+int(most))
		for range 200 {
			x.step(t)
			if x.Intn(4) == 0 {
				x.call(t)
			}
			x.plain.alike(t, x.world)
		}
	})
}
