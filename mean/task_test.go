package mean

import (
	"math"
	"testing"

	"pipewright/api"
)

// three is a mean with tasks of several stages.
func three(t *testing.T) *Mean {
	t.Helper()
	m := begun(t, "stage f(s send int) { send s 1; send s 2; close s; } stage g() { } stage h(a recv int) { for x from a { } } stage main(in recv int) { chan a b int 1; spawn f(a); spawn g(); spawn h(in); emit 1; }", 6)
	goes(t, m, 0, 0, 0, 0)
	return m
}

// P19: Task: a task's stage, its state, and the channel that it waits for.
func TestTask(t *testing.T) {
	m := three(t)
	asks := func(want ...api.Task) {
		t.Helper()
		for k, x := range want {
			if got := m.Task(k); got != x {
				t.Errorf("Task(%d): %v, want %v", k, got, x)
			}
		}
		if m.Tasks() != len(want) {
			t.Errorf("Tasks: %d", m.Tasks())
		}
	}
	ready := func(stage int) api.Task { return api.Task{Stage: stage, State: api.TaskReady, Wait: -1} }
	over := func(stage int) api.Task { return api.Task{Stage: stage, State: api.TaskOver, Wait: -1} }
	asks(ready(3), ready(0), ready(1), ready(2))
	goes(t, m, 1, 2, 3)
	asks(ready(3), api.Task{Stage: 0, State: api.TaskWaits, Wait: 1}, over(1), ready(2))
	goes(t, m, 3, 0)
	asks(ready(3), api.Task{Stage: 0, State: api.TaskWaits, Wait: 1}, over(1), ready(2))
	goes(t, m, 3, 0)
	asks(over(3), api.Task{Stage: 0, State: api.TaskWaits, Wait: 1}, over(1), over(2))
	shows(t, m, "3! 0?1 1! 2!", "s0:-1 r0:3 s1:1 r1:0", "0/0[] 1/1[1]", "leak:3@902:1 leak:0@903:3", "1")
}

// P19: Task is all zero, and Step false, where there is no such task.
func TestNoTask(t *testing.T) {
	m := three(t)
	for _, k := range append(noTasks, 4, 5, 6) {
		if x := m.Task(k); x != (api.Task{}) {
			t.Errorf("Task(%d): %v", k, x)
		}
		stays(t, m, k)
	}
	m = begunMain(t, "")
	for _, k := range append(noTasks, 1) {
		if x := m.Task(k); x != (api.Task{}) {
			t.Errorf("Task(%d): %v", k, x)
		}
		stays(t, m, k)
	}
}

// P19: what is asked is no deed.
func TestAskingChangesNothing(t *testing.T) {
	m := three(t)
	goes(t, m, 1)
	before := viewOf(m)
	for range 5 {
		for _, k := range append(noTasks, 0, 1, 2, 3, 4) {
			m.Task(k)
		}
		m.Tasks()
		m.Events()
		m.Out()
	}
	if got := viewOf(m); got != before {
		t.Errorf("%+v became %+v", before, got)
	}
}

// P19: a task waits for the channel that its end is of, by its number; whatever
// statement it stands at.
func TestWaitsForTheChannel(t *testing.T) {
	for n := 1; n < 6; n++ {
		ahead := ""
		for k := range n {
			x := string(rune('a' + k))
			ahead += "chan s" + x + " r" + x + " int 1;"
		}
		x := string(rune('a' + n - 1))
		for _, does := range []string{"take y from r" + x + " { }", "for y from r" + x + " { }", "drain r" + x + ";"} {
			m := begunMain(t, ahead+does)
			goesOn(t, m, 0, n)
			if x := m.Task(0); x != (api.Task{State: api.TaskWaits, Wait: n}) {
				t.Errorf("%s behind %d channels: %v", does, n, x)
			}
			stays(t, m, 0, 0, math.MaxInt)
		}
		m := begunMain(t, ahead+"send s"+x+" 1; send s"+x+" 2;")
		goesOn(t, m, 0, n+1)
		if x := m.Task(0); x != (api.Task{State: api.TaskWaits, Wait: n}) {
			t.Errorf("send behind %d channels: %v", n, x)
		}
		stays(t, m, 0)
	}
}

// P19: nobody waits ahead of what no statement is: the turns of a repeat, the end;
// nor ahead of other statements, whatever channels are full.
func TestWhoNeverWaits(t *testing.T) {
	m := begunMain(t, "chan a b int 1; send a 1; clone c a; let n = 1; set n = 2; emit n; repeat n { } if n { } close a; abandon b; send c 3;")
	for deeds := 0; m.Task(0).State != api.TaskOver; deeds++ {
		if x := m.Task(0); x != (api.Task{State: api.TaskReady, Wait: -1}) {
			t.Fatalf("behind %d deeds: %v", deeds, x)
		}
		goes(t, m, 0)
	}
	tells(t, m, "leak:0@900:1 leak:0@900:4", "2")
}

// P19.2: a pick that can't be changes nothing: of no task, of one that is over, of
// one that waits; wherever the program is.
func TestPicksThatCannotBe(t *testing.T) {
	a := newAuthor(51)
	waits, over := 0, 0
	for range 3000 {
		m := begunOf(t, a.program(), a.inputs()...)
		for range 60 {
			m.Step(a.pickOf(m.Tasks()))
			for k := range m.Tasks() {
				switch m.Task(k).State {
				case api.TaskReady:
					continue
				case api.TaskWaits:
					waits++
				case api.TaskOver:
					over++
				}
				if a.Intn(8) == 0 {
					stays(t, m, k)
				}
			}
		}
		stays(t, m, append(noTasks, m.Tasks(), m.Tasks()+1)...)
	}
	if waits < 1000 || over < 1000 {
		t.Errorf("%d wait, %d are over: too few", waits, over)
	}
}
