package watch

import (
	"fmt"
	"math"
	"slices"
	"testing"

	"pipewright/api"
)

const stuckEvent = "stuck:-1@-1:-1"

// P18.1: 0, 1, and more steps of a run that is over behind 7; as many as it has,
// one less and one more, the greatest int.
func TestMostOfOver(t *testing.T) {
	c := mainOf("ri i", "take 1 0 :3; emit v1; jump :0; drain 0; over 0")
	for most, want := range []string{
		"cut 0: ;", "cut 1: ;", "cut 2: 7;", "cut 3: 7;", "cut 4: 7;", "cut 5: 7;", "cut 6: 7;", "over 7: 7;", "over 7: 7;", "over 7: 7;",
	} {
		wants(t, c, in(7), nil, most, want)
		wants(t, c, in(7), l(0, 3, -1, 5, math.MinInt, math.MaxInt, 1, 2), most, want)
	}
	for _, most := range l(100, 1<<31, 1<<32, math.MaxInt-1, math.MaxInt) {
		wants(t, c, in(7), nil, most, "over 7: 7;")
	}
}

// P18.1: where the steps are used up just as nothing is ready any more, it is at
// an end: RunOver, if all are over, else RunStuck; not RunCut.
func TestMostOfStuck(t *testing.T) {
	c := mainOf("ri si ri i", "emit 5; chan 1 2; drain 0; emit 6; take 3 2 :0")
	for most, want := range []string{
		"cut 0: ;", "cut 1: 5;", "cut 2: 5;", "cut 3: 5;", "stuck 4: 5 6; " + stuckEvent, "stuck 4: 5 6; " + stuckEvent, "stuck 4: 5 6; " + stuckEvent,
	} {
		wants(t, c, nil, nil, most, want)
		wants(t, c, nil, l(9, -9, 9, -9, 9, -9), most, want)
	}
	for _, most := range l(100, 1<<31, 1<<32, math.MaxInt-1, math.MaxInt) {
		wants(t, c, nil, nil, most, "stuck 4: 5 6; "+stuckEvent)
	}
}

// P18.1: a first task there is always, and it is ready, whatever it does first;
// so that of no steps nothing else can be told.
func TestMostOfNone(t *testing.T) {
	for _, first := range []string{"exit", "drain 0", "take 1 0 :0", "send 2 5", "give 4 0", "close 2", "jump :0", "spawn 0", "chan 2 3"} {
		c := code(proc("i", 0, ""), proc("ri i si ri sri", 1, first))
		for _, in := range [][]int64{nil, {1}, make([]int64, api.MaxInputs)} {
			wants(t, c, in, nil, 0, "cut 0: ;")
			wants(t, c, in, l(-1, 5), 0, "cut 0: ;")
			if r := ran(t, c, in, nil, 1); r.Steps != 1 || (r.How == api.RunCut) == (first == "exit") {
				t.Errorf("one step of %s: %s", first, said(r))
			}
		}
	}
}

// P18.1: what goes on without an end is cut, behind as many steps as were asked
// for.
func TestMostOfEndless(t *testing.T) {
	for _, c := range []api.Code{
		mainOf("ri", "jump :0"),
		mainOf("ri", "emit 1; jump :0"),
		mainOf("ri si", "close 1; jump :0"),
		code(proc("i", 0, "jump :0"), proc("ri", 1, "spawn 0; jump :0")),
		code(proc("i", 0, "jump :0"), proc("ri si ri i", 1, "spawn 0; chan 1 2; take 3 2 :0")),
	} {
		for _, most := range l(0, 1, 2, 3, 10, 999, 1000) {
			if r := ran(t, c, nil, l(1, 2, 3), most); r.How != api.RunCut || r.Steps != most {
				t.Errorf("most %d: %s", most, short(said(r)))
			}
		}
	}
}

// P18.1: of runs as they are drawn: what is cut is the beginning of what goes on
// longer; from the last step on nothing changes.
func TestMostOfDrawn(t *testing.T) {
	w := newWriter(6)
	hows := map[int]int{}
	for range 1200 {
		c, in, picks := w.code(4+w.Intn(20)), w.inputs(), w.picks(w.Intn(60))
		last := ran(t, c, in, picks, 60)
		hows[last.How]++
		for most := range 64 {
			r := ran(t, c, in, picks, most)
			switch {
			case most >= last.Steps && last.How != api.RunCut:
				if !sameReport(r, last) {
					t.Fatalf("most %d: %s, but with less %s", most, said(r), said(last))
				}
			case most > 60:
			case r.How != api.RunCut || r.Steps != most || !begins(r.Events, last.Events) || !begins(r.Out, last.Out):
				t.Fatalf("most %d: %s, but with more %s", most, said(r), said(last))
			}
		}
	}
	if hows[api.RunOver] < 100 || hows[api.RunStuck] < 100 || hows[api.RunCut] < 100 {
		t.Errorf("too few of a kind: %v", hows)
	}
}

func begins[T comparable](list, longer []T) bool {
	return len(list) <= len(longer) && slices.Equal(list, longer[:len(list)])
}

// P18.1: with RunCut no EventStuck comes, though all but one task wait.
func TestCutAsOthersWait(t *testing.T) {
	waits := proc("ri i", 1, "take 1 0 :0")
	c := code(waits, proc("ri si ri si ri", 1, "chan 1 2; chan 3 4; spawn 0 #2; spawn 0 #4; emit 7; emit 8"))
	wants(t, c, nil, nil, 6, "cut 6: 7 8;")
	wants(t, c, nil, nil, 7, fmt.Sprintf("stuck 7: 7 8; leak:0@%d:1 leak:0@%d:2 leak:0@%d:4 %s", place(6), place(6), place(6), stuckEvent))
}
