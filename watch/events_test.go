package watch

import (
	"fmt"
	"math"
	"slices"
	"strings"
	"testing"

	"pipewright/api"
)

// wrongs have, for each kind of event, code of which it is the only one; it is of
// main, at the place of an instruction, with an end.
var wrongs = []struct {
	kind    string
	said    string
	at, end int
}{
	{"none", "drain 0; close 1", 1, -1},
	{"none", "drain 0; over 0; drain 0", 2, -1},
	{"sent", "drain 0; chan 1 2; close 1; send 1 5; drain 2", 3, 2},
	{"twice", "drain 0; chan 1 2; close 1; close 1; drain 2", 3, 2},
	{"twice", "abandon 0; drain 0", 1, 1},
	{"owner", "spawn 0 #0; drain 0", 1, 1},
	{"owner", "spawn 0 #0; abandon 0", 1, 1},
	{"moved", "spawn 0 #0; take 3 0 :2", 1, 1},
	{"moved", "spawn 0 #0; spawn 0 #0", 1, 1},
	{"gone", "drain 0; take 3 0 :0; exit", 1, 1},
	{"gone", "drain 0; spawn 0 #0", 1, 1},
	{"leak", "emit 5", 1, 1},
	{"leak", "drain 0; chan 1 2; close 1", 3, 3},
}

// P18.1: runs with each event that may come ahead of the end, and no other one.
func TestEachEvent(t *testing.T) {
	seen := map[string]int{}
	for _, x := range wrongs {
		seen[x.kind]++
		c := code(proc("ri", 1, "drain 0"), mainOf("ri si ri i", x.said).Procs[0])
		if x.said == "drain 0; take 3 0 :0; exit" {
			c.Procs[1].Ins[1].To = 2
		}
		r := whole(t, c, in(4))
		want := fmt.Sprintf("%s:0@%d:%d", x.kind, place(x.at), x.end)
		if r.How != api.RunOver || saidEvents(r.Events) != want {
			t.Errorf("%s: %s, want %s", x.said, said(r), want)
		}
		// And with a task that waits.
		waits := code(proc("ri", 1, "drain 0"), proc("si ri", 0, "chan 0 1; drain 1"), proc("ri si ri i", 1, "spawn 1;"+x.said))
		for k := range waits.Procs[2].Ins {
			waits.Procs[2].Ins[k].To = k + 1
		}
		want = fmt.Sprintf("%s:0@%d:%d %s", x.kind, place(x.at+1), x.end, stuckEvent)
		r = whole(t, waits, in(4))
		if r.How != api.RunStuck || saidEvents(r.Events) != want {
			t.Errorf("%s, with one that waits: %s, want %s", x.said, said(r), want)
		}
	}
	for _, kind := range eventWords[1 : len(eventWords)-1] {
		if seen[kind] == 0 {
			t.Errorf("no code for %s", kind)
		}
	}
}

// P18.1: events stand in the order in which they came, those of all tasks
// together, and so do the numbers.
func TestOrderOfEvents(t *testing.T) {
	tells := proc("si i", 1, "emit v1,1,+; close 0; emit v1,2,+; close 0; emit v1,3,+")
	c := code(tells, proc("ri si ri si ri", 1, "drain 0; chan 1 2; chan 3 4; spawn 0 #1; spawn 0 #3; abandon 2; abandon 4"))
	one, other := fmt.Sprintf("twice:1@%d:2", place(3)), fmt.Sprintf("twice:2@%d:4", place(3))
	wants(t, c, nil, nil, 100, fmt.Sprintf("over 20: 1 2 3 1 2 3; %s %s", one, other))
	wants(t, c, nil, behind(5, 2, 2, 2, 2, 2, 2), 100, fmt.Sprintf("over 20: 1 2 3 1 2 3; %s %s", other, one))
	wants(t, c, nil, behind(8, 0, 1, 0, 1, 0, 1, 0, 1), 100, fmt.Sprintf("over 20: 1 1 2 2 3 3; %s %s", one, other))
	wants(t, c, nil, behind(8, 1, 0, 1, 0, 1, 0, 1, 0), 100, fmt.Sprintf("over 20: 1 1 2 2 3 3; %s %s", other, one))
	wants(t, c, nil, behind(8, 1, 1, 0, 0, 0, 0), 14, fmt.Sprintf("cut 14: 1 1 2; %s", one))
}

// P18.1: of which task a number is the order tells.
func TestOrderOfOut(t *testing.T) {
	c, ahead := crowd(3)
	picks := behind(ahead, 2, 1, 0, 0, 2, 2, 1, 1)
	wants(t, c, nil, picks, ahead+8, fmt.Sprintf("cut %d: 2 1 0 0 2 2 1 1;", ahead+8))
	c = lowered(t, "stage main(in recv int) { for x from in { emit x; emit 0 - x; } drain in; }")
	wants(t, c, in(3, math.MinInt64, 0, math.MaxInt64, 3), nil, 100,
		"over 24: 3 -3 -9223372036854775808 -9223372036854775808 0 0 9223372036854775807 -9223372036854775807 3 -3;")
}

// P18.1: runs without any event; nothing is told but what was emitted.
func TestNoEvent(t *testing.T) {
	for _, x := range []struct{ src, want string }{
		{"stage main(in recv int) { drain in; }", "over 5: ;"},
		{"stage main(in recv int) { abandon in; }", "over 3: ;"},
		{"stage main(in recv int) { emit 1; abandon in; emit 2; }", "over 5: 1 2;"},
		{"stage main(in recv int) { for x from in { emit x; } drain in; }", "over 10: 7 8;"},
		{"stage main(in recv int) { take x from in { emit x; } else { emit 0; } drain in; }", "over 7: 7;"},
		{"stage f(a recv int) { drain a; } stage main(in recv int) { spawn f(in); emit 3; }", "over 9: 3;"},
	} {
		c := lowered(t, x.src)
		for _, picks := range [][]int{nil, l(1, 1, 1, 1, 1, 1), wildPicks} {
			wants(t, c, in(7, 8), picks, 100, x.want)
		}
	}
}

// P18.1: a report has events, and nothing of what an earlier run told.
func TestEventsOfThisRunAlone(t *testing.T) {
	bad := mainOf("ri si ri i", "close 1; emit 1; take 3 2 :0")
	good := mainOf("ri", "drain 0; emit 2")
	for range 3 {
		wants(t, bad, nil, nil, 4, fmt.Sprintf("cut 4: 1; none:0@%d:-1 none:0@%d:-1 none:0@%d:-1", place(0), place(2), place(0)))
		wants(t, good, nil, nil, 4, "over 3: 2;")
	}
}

// P18.1: very many events and numbers, all of them.
func TestManyEvents(t *testing.T) {
	c := mainOf("ri si i", "close 1; let 2 v2,1,+; emit v2; jump :0")
	const n = 20000
	r := ran(t, c, nil, nil, 4*n)
	var want []int64
	for k := range n {
		want = append(want, int64(k+1))
	}
	event := api.Event{Kind: api.EventNone, Task: 0, At: place(0), End: -1}
	if r.How != api.RunCut || r.Steps != 4*n || !slices.Equal(r.Out, want) || !slices.Equal(r.Events, slices.Repeat([]api.Event{event}, n)) {
		t.Errorf("%s", short(said(r)))
	}
}

// The words of events are as many as there are kinds.
func TestEventWords(t *testing.T) {
	if got := strings.Join(eventWords[api.EventNone:], " "); got != "none sent twice owner moved gone leak stuck" || len(eventWords) != api.EventStuck+1 {
		t.Error(eventWords)
	}
}
