package world

import (
	"slices"
	"testing"

	"pipewright/api"
)

// P1: very many steps, with much that is emitted and told.
func TestManySteps(t *testing.T) {
	const n = 300000
	inTime(t, "steps", func() {
		w := begun(t, code(proc("ri i si", 1, "let 1 v1,1,+; emit v1; close 2; jump :0")))
		for range n {
			goes(t, w, 0, 0, 0, 0)
		}
		out, events := w.Out(), w.Events()
		if len(out) != n || out[n-1] != n || len(events) != n || events[n-1] != (api.Event{Kind: api.EventNone, At: place(2), End: -1}) {
			t.Errorf("%d are emitted, %d told", len(out), len(events))
		}
	})
}

// P1: very many tasks and channels.
func TestManyTasks(t *testing.T) {
	const n = 3000
	inTime(t, "tasks", func() {
		w := begun(t, code(proc("si", 1, "send 0 7; close 0"), proc("ri si ri i", 1, "chan 1 2; spawn 0 #1; jump :0")))
		for range n {
			goes(t, w, 0, 0, 0)
		}
		if ready := w.Ready(); len(ready) != n+1 || !slices.IsSorted(ready) {
			t.Fatalf("%d are ready", len(ready))
		}
		for k := n; k > 0; k-- {
			goes(t, w, k, k, k)
		}
		if ready := w.Ready(); !slices.Equal(ready, l(0)) || len(w.Events()) > 0 || len(w.Of(0)) != n+1 {
			t.Errorf("ready: %v, events: %v", ready, w.Events())
		}
	})
}

// P1: channels that lie in each other as deep as may be, and go with one step.
func TestDeep(t *testing.T) {
	const n = 1 << 16
	inTime(t, "deep", func() {
		// Types allow for three alone: others put them into each other.
		x := begun(t, code(proc("ri sri rri", 1, "chan 1 2; take 0 2 :0; abandon 0")))
		goes(t, x, 0)
		inner := 1
		for range n {
			send, recv := x.Make(1, 5)
			x.Put(send, anEnd(inner))
			inner = recv
		}
		x.Put(2, anEnd(inner))
		goes(t, x, 0, 0)
		if gone := x.Of(api.HomeDropped); len(gone) != n+2 {
			t.Errorf("%d are gone", len(gone))
		}
	})
}

// P1: a spawn with as many Args as there may be variables.
func TestManyArgs(t *testing.T) {
	const n = 2 * api.MaxIns
	p := api.Proc{Params: n, Blocks: []api.Block{{Kind: api.BlockBody}}, Vars: slices.Repeat([]api.Var{{T: "i"}}, n), Ins: []api.Ins{{Op: api.InEmit}, {Op: api.InExit}}}
	p.Ins[0].E = []api.Push{{Op: api.PushVar, N: n - 1}}
	main := proc("ri", 1, "spawn 0; spawn 0; emit 1")
	for k := range n {
		arg := api.Arg{E: []api.Push{{Op: api.PushNum, N: int64(k)}}}
		main.Ins[0].Args = append(main.Ins[0].Args, arg)
	}
	main.Ins[1].Args = main.Ins[0].Args
	w := begun(t, code(p, main))
	goes(t, w, 0, 0, 2, 1)
	shows(t, w, "1@2 0@1 0@1", "s0:-1 r0:0", "0/0[]", "", "3999 3999")
}
