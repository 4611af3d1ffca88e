package mean

import (
	"fmt"
	"slices"
	"testing"

	"pipewright/api"
	"pipewright/lower"
	"pipewright/world"
)

// pair is a program that is gone through, and its code that is run.
type pair struct {
	*author
	world   *world.World
	mean    *Mean
	done    int // how many deeds
	silent  int // how many steps of the world alone
	settled int // how often no task had a silent instruction next
}

func (a *author) pair(t *testing.T, p api.Program) *pair {
	t.Helper()
	in := a.inputs()
	c, f := lower.Lower(p)
	if f != fault(0, 0) {
		t.Fatal(f)
	}
	w, f := world.New(c, in)
	if f != fault(0, 0) {
		t.Fatal(f)
	}
	return &pair{author: a, world: w, mean: begunOf(t, p, in...)}
}

// step: the task goes on in the world; in the mean, if that was not silent.
func (x *pair) step(t *testing.T, k int) {
	t.Helper()
	if x.world.Silent(k) {
		x.silent++
		if !x.world.Step(k) {
			t.Fatalf("the task %d is silent, and stays", k)
		}
		return
	}
	did := x.world.Step(k)
	if got := x.mean.Step(k); got != did {
		t.Fatalf("Step(%d): %v, in the world %v", k, got, did)
	}
	if did {
		x.done++
	}
}

// draw picks a task as it is drawn: mostly one that is ready.
func (x *pair) draw(t *testing.T) {
	t.Helper()
	k := x.pickOf(x.world.Tasks())
	if list := x.world.Ready(); len(list) > 0 && x.Intn(6) > 0 {
		k = pick(x.author, list)
	}
	x.step(t, k)
}

// settle does in the world what is silent.
func (x *pair) settle(t *testing.T) {
	t.Helper()
	for k := range x.world.Tasks() {
		for x.world.Silent(k) {
			x.step(t, k)
		}
	}
}

func (x *pair) isSettled() bool {
	for k := range x.world.Tasks() {
		if x.world.Silent(k) {
			return false
		}
	}
	return true
}

// alike: both tell the same, if no task of the world has a silent instruction
// next. What the store has they have alike in any case.
func (x *pair) alike(t *testing.T) {
	t.Helper()
	w, m := x.world, x.mean
	if a, b := m.All(), w.All(); !slices.Equal(a, b) {
		t.Fatalf("ends: %s, in the world %s", toldEnds(a), toldEnds(b))
	}
	if a, b := m.Chans(), w.Chans(); !slices.EqualFunc(a, b, sameChan) {
		t.Fatalf("channels: %s, in the world %s", toldChans(a), toldChans(b))
	}
	if a, b := m.Events(), w.Events(); !slices.Equal(a, b) {
		t.Fatalf("events: %s, in the world %s", toldEvents(a), toldEvents(b))
	}
	if a, b := m.Out(), w.Out(); !slices.Equal(a, b) {
		t.Fatalf("emitted: %v, in the world %v", a, b)
	}
	if m.Tasks() != w.Tasks() {
		t.Fatalf("%d tasks, in the world %d", m.Tasks(), w.Tasks())
	}
	if !x.isSettled() {
		return
	}
	x.settled++
	for k := -1; k <= w.Tasks(); k++ {
		if a, b := m.Task(k), w.Task(k); a != b {
			t.Fatalf("the task %d: %v, in the world %v", k, a, b)
		}
	}
}

// call asks both for one of the store's calls.
func (x *pair) call(t *testing.T) {
	t.Helper()
	e, task := x.Intn(len(x.world.All())+1)-1, x.Intn(x.world.Tasks()+1)
	item := api.Item{N: x.number(), End: x.Intn(len(x.world.All())+1) - 1}
	var a, b []any
	both := func(one, other any) { a, b = append(a, one), append(b, other) }
	switch x.Intn(8) {
	case 0:
		both(x.mean.Clone(e, task), x.world.Clone(e, task))
	case 1:
		i, how := x.mean.Take(e, task)
		j, why := x.world.Take(e, task)
		both(i, j)
		both(how, why)
	case 2:
		both(x.mean.Drop(e), x.world.Drop(e))
	default:
		both(x.mean.Put(e, item), x.world.Put(e, item))
	}
	if fmt.Sprint(a) != fmt.Sprint(b) {
		t.Fatalf("a call of the store (%d %d %v): %v, in the world %v", e, task, item, a, b)
	}
}

// pairs goes through many programs; now and then the world does what is silent
// first, and, if calls is not 0, others call the store. It tells what came of it.
func pairs(t *testing.T, seed int64, programs []api.Program, calls int) map[string]int {
	t.Helper()
	seen := map[string]int{}
	a := newAuthor(seed)
	for n, p := range programs {
		x := a.pair(t, p)
		x.alike(t)
		for range 40 + n%3*120 {
			if calls > 0 && a.Intn(calls) == 0 {
				x.call(t)
			} else {
				x.draw(t)
			}
			if a.Intn(3) == 0 {
				x.settle(t)
			}
			x.alike(t)
			if calls == 0 && len(x.world.Ready()) == 0 && a.Intn(4) == 0 {
				break
			}
		}
		x.settle(t)
		x.alike(t)
		seen["deeds"] += x.done
		seen["silent"] += x.silent
		seen["settled"] += x.settled
		seen["emitted"] += len(x.mean.Out())
		seen["tasks"] += x.mean.Tasks()
		seen["chans"] += len(x.mean.Chans())
		for _, e := range x.mean.Events() {
			seen[eventWords[e.Kind]]++
		}
	}
	return seen
}

func authored(seed int64, n int) []api.Program {
	a := newAuthor(seed)
	var all []api.Program
	for range n {
		all = append(all, a.program())
	}
	return all
}

func parsedAll(t *testing.T, texts []string) []api.Program {
	t.Helper()
	var all []api.Program
	for _, src := range texts {
		all = append(all, parsed(t, src))
	}
	return all
}

const allThatIsAlike = "deeds, silent, settled, emitted, tasks, chans"

// What follows: the same as its code: programs as they come.
func TestSameAsItsCode(t *testing.T) {
	seen := pairs(t, 11, authored(12, 8000), 0)
	wantSeen(t, seen, 1000, allThatIsAlike)
	wantSeen(t, seen, 100, "none, sent, twice, owner, moved, gone, leak")
}

// What follows: the same as its code: programs most of which are right, or
// nearly so, and go on for longer.
func TestSameAsItsCodeOfTidyOnes(t *testing.T) {
	seen := pairs(t, 13, parsedAll(t, append(tidied(14, 4000), woven(15, 4000)...)), 0)
	wantSeen(t, seen, 10000, allThatIsAlike)
}

// The same, while others call the store.
func TestSameAsItsCodeWithCalls(t *testing.T) {
	programs := append(parsedAll(t, append(tidied(16, 1500), woven(17, 1500)...)), authored(18, 4000)...)
	wantSeen(t, pairs(t, 19, programs, 5), 500, allThatIsAlike+", none, sent, twice, owner, moved, gone, leak")
}

// toEnd: who is picked is drawn, till nobody is ready, or it goes on for long.
func (x *pair) toEnd(t *testing.T) {
	t.Helper()
	for range 3000 {
		list := x.world.Ready()
		if len(list) == 0 {
			break
		}
		x.step(t, pick(x.author, list))
	}
	x.settle(t)
	x.alike(t)
}

// What follows: the same as its code, held against each other at the end alone:
// there is nothing that is done in one of them only.
func TestSameAsItsCodeAtTheEnd(t *testing.T) {
	a := newAuthor(20)
	over, stuck := 0, 0
	for _, p := range append(parsedAll(t, append(tidied(21, 2000), woven(22, 2000)...)), authored(23, 2000)...) {
		x := a.pair(t, p)
		x.toEnd(t)
		switch list := x.world.Ready(); {
		case len(list) > 0:
		case len(ready(x.mean)) > 0:
			t.Fatalf("the mean goes on: %+v", viewOf(x.mean))
		case slices.Contains(states(x.mean), api.TaskWaits):
			stuck++
		default:
			over++
		}
	}
	if over < 1000 || stuck < 1000 {
		t.Errorf("%d are over, %d stuck: too few", over, stuck)
	}
}

func states(m *Mean) []int {
	var list []int
	for k := range m.Tasks() {
		list = append(list, m.Task(k).State)
	}
	return list
}
