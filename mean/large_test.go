package mean

import (
	"fmt"
	"slices"
	"strings"
	"testing"

	"pipewright/api"
)

// P1: very many deeds, with much that is emitted and told.
func TestManyDeeds(t *testing.T) {
	inTime(t, "deeds", func() {
		does := "set n = n + 1; emit n; drain in;"
		for range api.MaxDepth - 1 {
			does = "repeat 6 { " + does + "}"
		}
		m := begunMain(t, "let n = 0; drain in; "+does)
		deeds := 0
		for m.Step(0) {
			deeds++
		}
		const n = 6 * 6 * 6 * 6 * 6 * 6 * 6
		out, events := m.Out(), m.Events()
		if len(out) != n || out[n-1] != n || len(events) != n || events[n-1] != (api.Event{Kind: api.EventTwice, At: 111, End: 1}) {
			t.Errorf("%d deeds, %d are emitted, %d told", deeds, len(out), len(events))
		}
	})
}

// P1: very many items that others put in, by a for, and by a drain.
func TestManyItems(t *testing.T) {
	const n = 300000
	inTime(t, "items", func() {
		m := begunMain(t, "for x from in { if x < 0 { } else { let y = x; emit y; } }")
		send, recv := m.Make(0, 0)
		for k := range n {
			m.Put(send, aNumber(int64(k)))
		}
		m.tasks[0].vars["in"] = anEnd(recv)
		goesOn(t, m, 0, 4*n)
		if out := m.Out(); len(out) != n || out[n-1] != n-1 {
			t.Errorf("%d are emitted", len(out))
		}
	})
}

// P1: very many tasks and channels.
func TestManyTasks(t *testing.T) {
	inTime(t, "tasks", func() {
		m := begun(t, "stage f(s send int, n int) { send s n; close s; } stage main(in recv int) { drain in; repeat 6 { repeat 6 { repeat 6 { repeat 6 { chan s r int 1; spawn f(s, 7); abandon r; } } } } }")
		for m.Step(0) {
		}
		const n = 6 * 6 * 6 * 6
		if m.Tasks() != n+1 || len(m.Chans()) != n+1 {
			t.Fatalf("%d tasks, %d channels", m.Tasks(), len(m.Chans()))
		}
		for k := n; k > 0; k-- {
			goes(t, m, k, k, k)
		}
		if list := ready(m); len(list) > 0 || len(m.Events()) > 0 || len(m.Of(api.HomeDropped)) != 2*n+2 {
			t.Errorf("ready: %v, events: %v", list, m.Events())
		}
	})
}

// P1: tasks that spawn others, in all stages that there may be.
func TestAllStages(t *testing.T) {
	src := "stage p0(n int) { emit n; }\n"
	for k := 1; k < api.MaxStages-1; k++ {
		src += fmt.Sprintf("stage p%d(n int) { spawn p%d(n * 2); spawn p%d(n * 2 + 1); }\n", k, k-1, k-1)
	}
	m := begun(t, src+fmt.Sprintf("stage main(in recv int) { drain in; spawn p%d(1); }", api.MaxStages-2))
	runs(t, m)
	out := m.Out()
	slices.Sort(out)
	if m.Tasks() != 1<<9 || len(out) != 1<<8 || out[0] != 1<<8 || out[1<<8-1] != 1<<9-1 || len(m.Events()) > 0 {
		t.Errorf("%d tasks, %v", m.Tasks(), out)
	}
}

// P1: a stage at the limits: as many statements, and names, as there may be.
func TestAtTheLimits(t *testing.T) {
	var does strings.Builder
	for k := range api.MaxVars - 1 {
		fmt.Fprintf(&does, "let x%d = %d; ", k, k)
	}
	for k := range api.MaxStmts - api.MaxVars + 1 {
		fmt.Fprintf(&does, "emit x%d;", k%(api.MaxVars-1))
	}
	m := begunMain(t, does.String())
	if n := runs(t, m); n != api.MaxStmts+1 || len(m.Out()) != api.MaxStmts-api.MaxVars+1 {
		t.Errorf("%d deeds, %v", n, m.Out())
	}
	for k, n := range m.Out() {
		if n != int64(k%(api.MaxVars-1)) {
			t.Fatalf("%d is emitted at %d", n, k)
		}
	}
	// And a spawn with as many arguments as there may be.
	m = begun(t, "stage f(a int, b recv int, c int, d send int, e recv int, g int) { emit a; emit c; emit g; close d; drain b; for x from e { } drain e; } stage main(in recv int) { chan s r int 1; spawn f(1, in, 2, s, r, 3); }", 4)
	runs(t, m)
	shows(t, m, "1! 0!", "s0:-1 r0:-1 s1:-1 r1:-1", "0/0[]- 1/0[]-", "", "1 2 3")
}

// P1: channels that lie in each other as deep as may be, and go with one deed.
func TestDeep(t *testing.T) {
	const n = 1 << 16
	inTime(t, "deep", func() {
		// Types allow for three alone: others put them into each other.
		m := begunMain(t, "chan a b recv int 1; take r from b { abandon r; }")
		goes(t, m, 0)
		inner := 1
		for range n {
			send, recv := m.Make(1, 5)
			m.Put(send, anEnd(inner))
			inner = recv
		}
		m.Put(2, anEnd(inner))
		goes(t, m, 0, 0)
		if gone := m.Of(api.HomeDropped); len(gone) != n+2 {
			t.Errorf("%d are gone", len(gone))
		}
	})
}
