package world

import (
	"math"
	"slices"
	"testing"

	"pipewright/api"
)

// three is a world with tasks that are ready, that wait, and that are over, at
// instructions that are silent and that are not.
func three(t *testing.T) *World {
	t.Helper()
	w := begun(t, code(
		proc("si", 1, "send 0 1; send 0 2; close 0"),
		proc("", 0, ""),
		proc("ri i", 1, "take 1 0 :0"),
		proc("ri si ri", 1, "chan 1 2 x1; spawn 0 #1; spawn 1; spawn 2 #0; over 0; jump :5"),
	), 6)
	goes(t, w, 0, 0, 0, 0)
	return w
}

// P17.2: a task's stage, its state, and the channel that it waits for.
func TestTask(t *testing.T) {
	w := three(t)
	asks := func(want ...api.Task) {
		t.Helper()
		for k, x := range want {
			if got := w.Task(k); got != x {
				t.Errorf("Task(%d): %v, want %v", k, got, x)
			}
		}
		if w.Tasks() != len(want) {
			t.Errorf("Tasks: %d", w.Tasks())
		}
	}
	ready := func(stage int) api.Task { return api.Task{Stage: stage, State: api.TaskReady, Wait: -1} }
	asks(ready(3), ready(0), ready(1), ready(2))
	goes(t, w, 1, 2, 3, 3)
	asks(ready(3), api.Task{Stage: 0, State: api.TaskWaits, Wait: 1}, api.Task{Stage: 1, State: api.TaskOver, Wait: -1}, api.Task{Stage: 2, State: api.TaskOver, Wait: -1})
	shows(t, w, "3@4~ 0@1?1 1! 2!", "s0:-1 r0:3 s1:1 r1:0", "0/0[] 1/1[1]", "leak:3@101:1", "")
}

// P17.2: all zero, where there is no such task.
func TestNoTask(t *testing.T) {
	w := three(t)
	for _, k := range append(noTasks, 4, 5, 6) {
		if x := w.Task(k); x != (api.Task{}) {
			t.Errorf("Task(%d): %v", k, x)
		}
		if w.Silent(k) || w.At(k) != -1 {
			t.Errorf("of %d: Silent %v, At %d", k, w.Silent(k), w.At(k))
		}
		stays(t, w, k)
	}
}

// P17: Ready: none, one, several, rising.
func TestReady(t *testing.T) {
	w := three(t)
	asks := func(want ...int) {
		t.Helper()
		for range 2 {
			if got := w.Ready(); !slices.Equal(got, want) {
				t.Fatalf("Ready: %v, want %v", got, want)
			}
		}
	}
	asks(0, 1, 2, 3)
	goes(t, w, 2)
	asks(0, 1, 3)
	goes(t, w, 1)
	asks(0, 3)
	if x, how := w.Take(3, 0); x.N != 1 || how != 1 {
		t.Fatalf("Take: %v %d", x, how)
	}
	asks(0, 1, 3)
	goes(t, w, 3, 3, 1)
	asks(0, 1)
	goes(t, w, 1, 1)
	asks(0)
	none := begun(t, code(proc("ri", 1, "")))
	goes(t, none, 0)
	if ready := none.Ready(); len(ready) > 0 {
		t.Errorf("Ready: %v", ready)
	}
}

// P17: Silent: InJump and InOver alone; At: each number.
func TestSilentAndAt(t *testing.T) {
	c := code(proc("ri", 1, ""), proc("ri i si ri si ssi rsi", 1,
		"let 1 1; emit v1; chan 2 3 x5; clone 4 2; send 2 1; chan 5 6; give 5 4; close 2; close 5; take 1 3 :0; abandon 3; drain 6; spawn 0 #0; turns 1 2; count 1 :0; if 1 :0; jump :17; over 0"))
	w := begun(t, c)
	for at, ins := range c.Procs[1].Ins {
		silent := ins.Op == api.InJump || ins.Op == api.InOver
		if w.At(0) != at || w.Silent(0) != silent {
			t.Fatalf("at %d, %s: At %d, Silent %v", at, words[ins.Op], w.At(0), w.Silent(0))
		}
		goes(t, w, 0)
		if ins.Op == api.InDrain {
			goes(t, w, 0)
		}
	}
	if w.At(0) != -1 || w.Silent(0) {
		t.Errorf("over: At %d, Silent %v", w.At(0), w.Silent(0))
	}
}

// Each Op once: what is asked is no step.
func TestAskingChangesNothing(t *testing.T) {
	w := three(t)
	goes(t, w, 1)
	before := viewOf(w)
	for range 5 {
		for _, k := range append(noTasks, 0, 1, 2, 3, 4) {
			w.Task(k)
			w.Silent(k)
			w.At(k)
		}
		w.Tasks()
		w.Ready()
		w.Events()
		w.Out()
	}
	if got := viewOf(w); got != before {
		t.Errorf("%+v became %+v", before, got)
	}
}

// P17.2: a task that waits for a channel that another one made, by its number.
func TestWaitsForTheChannel(t *testing.T) {
	for n := 1; n < 6; n++ {
		said := ""
		for range n {
			said += "chan 1 2;"
		}
		w := begun(t, code(proc("ri si ri i", 1, said+"take 3 2 :0")))
		goesTo(t, w, 0, n)
		if x := w.Task(0); x != (api.Task{State: api.TaskWaits, Wait: n}) {
			t.Errorf("behind %d channels: %v", n, x)
		}
		stays(t, w, 0, 0, math.MaxInt)
	}
}
