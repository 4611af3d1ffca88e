package world

import (
	"testing"

	"pipewright/api"
)

// P17.3: without Args: a new task behind all others, at its first instruction;
// its variables have the number 0, and no ends.
func TestSpawnOfNothing(t *testing.T) {
	w := begun(t, code(proc("i si", 0, "emit v0; close 1"), proc("ri", 1, "spawn 0; spawn 0; emit 5")))
	goes(t, w, 0)
	shows(t, w, "1@1 0@0", "s0:-1 r0:0", "0/0[]", "", "")
	goes(t, w, 1, 0, 2, 2, 1, 0)
	shows(t, w, "1@3 0@2 0@2", "s0:-1 r0:0", "0/0[]", "none:2@101:-1 none:1@101:-1", "0 0 5")
}

// P17.3: numbers: the new task's first variables, in order; behind them 0.
func TestSpawnOfNumbers(t *testing.T) {
	w := begun(t, code(proc("i i i i", 3, "emit v0; emit v1; emit v2; emit v3; let 0 0; emit v0"), proc("ri i", 1, "let 1 8; spawn 0 v1,1,+ -7 v1; emit v1")))
	goes(t, w, 0, 0, 1, 1, 1, 1, 1, 1, 0)
	shows(t, w, "1@3 0@6", "s0:-1 r0:0", "0/0[]", "", "9 -7 8 0 0 8")
}

// P17.3: ends: they are the new task's, whichever variables have them.
func TestSpawnOfEnds(t *testing.T) {
	w := begun(t, code(proc("ri si i si", 3, "send 1 v2; close 1; drain 0; close 3"), proc("ri si ri", 1, "chan 1 2; spawn 0 #0 #1 6; send 1 1; drain 0")))
	goes(t, w, 0, 0)
	shows(t, w, "1@2 0@0", "s0:-1 r0:1 s1:1 r1:0", "0/0[] 1/1[]", "", "")
	goes(t, w, 1, 1, 1, 1, 0, 0)
	shows(t, w, "1@4 0@4", "s0:-1 r0:-1 s1:-1 r1:0", "0/0[]- 1/0[6]", "none:1@103:-1 sent:0@102:2 twice:0@103:1", "")
}

// P17.3: the same end twice: an event of the second one, ahead of its being
// used, and nothing is moved; by one variable, or by two that have it.
func TestSpawnOfTheSame(t *testing.T) {
	two, three := proc("ri ri", 2, ""), proc("ri i ri ri", 4, "")
	for _, x := range []struct{ said, event string }{
		{"spawn 0 #0 #0", "moved:0@104:1"},
		{"spawn 0 #3 #3", "moved:0@104:1"},
		{"spawn 0 #0 #3", "moved:0@104:1"},
		{"spawn 0 #3 #0", "moved:0@104:1"},
		{"spawn 1 #0 5 #4 #3", "moved:0@104:1"},
		{"spawn 1 #4 5 #0 #4", "moved:0@104:5"},
		{"spawn 1 #4 5 #4 #6", "moved:0@104:5"},
		{"spawn 1 #0 5 #6 #0", "none:0@104:-1"},
		{"spawn 1 #6 5 #6 #0", "none:0@104:-1"},
		{"spawn 1 #0 5 #0 #6", "moved:0@104:1"},
		{"spawn 0 #6 #6", "none:0@104:-1"},
	} {
		w := begun(t, code(two, three, proc("ri sri rri ri ri si ri", 1, "chan 1 2; give 1 0; take 3 2 :0; chan 5 4;"+x.said)))
		goesTo(t, w, 0, 5)
		shows(t, w, "2@5", "s0:-1 r0:0 s1:0 r1:0 s2:0 r2:0", "0/0[] 1/1[] 1/1[]", x.event, "")
	}
}

// P17.3: Arg by Arg: the first one that is wrong is told, and nothing is moved,
// also of those ahead of it.
func TestSpawnOfWrong(t *testing.T) {
	taker, three := proc("ri", 1, ""), proc("ri i ri ri", 4, "")
	for _, x := range []struct{ said, event string }{
		{"spawn 1 #0 5 #2 #4", "gone:0@104:3"},
		{"spawn 1 #2 5 #0 #4", "gone:0@104:3"},
		{"spawn 1 #4 5 #2 #0", "moved:0@104:5"},
		{"spawn 1 #0 5 #4 #0", "moved:0@104:5"},
		{"spawn 1 #5 5 #4 #2", "none:0@104:-1"},
		{"spawn 1 #0 5 #0 #2", "moved:0@104:1"},
	} {
		w := begun(t, code(taker, three, proc("ri si ri si ri ri", 1, "chan 1 2; abandon 2; chan 3 4; spawn 0 #4;"+x.said)))
		goesTo(t, w, 0, 5)
		shows(t, w, "2@5 0@0", "s0:-1 r0:0 s1:0 r1:-1 s2:0 r2:1", "0/0[] 1/1[]- 1/1[]", x.event, "")
	}
}

// P17.3: tasks spawn tasks; each is numbered as it comes, and each has variables
// of its own.
func TestSpawnWithinSpawn(t *testing.T) {
	w := begun(t, code(
		proc("i", 1, "let 0 v0,10,+; emit v0"),
		proc("i", 1, "spawn 0 v0,1,+; spawn 0 v0,2,+; emit v0"),
		proc("ri", 1, "spawn 1 100; spawn 0 200; spawn 1 300"),
	))
	goes(t, w, 0, 1, 0, 1, 0, 5, 5)
	shows(t, w, "2@3 1@2 0@0 0@0 0@0 1@2 0@0 0@0", "s0:-1 r0:0", "0/0[]", "", "")
	goes(t, w, 7, 7, 1, 2, 3, 4, 5, 6, 6, 4, 3, 2) // they emit in the order 7 1 5 6 4 3 2
	shows(t, w, "2@3 1@3 0@2 0@2 0@2 1@3 0@2 0@2", "s0:-1 r0:0", "0/0[]", "", "312 100 300 311 112 210 111")
}

// P17.3: a stage that stands below Main may be spawned, Main's own number, too,
// by those behind it.
func TestSpawnOfMain(t *testing.T) {
	c := api.Code{Main: 1, Procs: []api.Proc{proc("ri", 1, "drain 0"), proc("ri", 1, "spawn 0 #0"), proc("ri", 1, "spawn 1 #0")}}
	w := begun(t, c)
	runs(t, w)
	shows(t, w, "1! 0!", "s0:-1 r0:-1", "0/0[]-", "", "")
	c.Main = 2
	w = begun(t, c)
	runs(t, w)
	shows(t, w, "2! 1! 0!", "s0:-1 r0:-1", "0/0[]-", "", "")
}

// P17.3: one instruction may be done again and again; a task each time.
func TestSpawnAgain(t *testing.T) {
	w := begun(t, code(proc("si", 1, "send 0 1; close 0"), proc("ri si ri i", 1, "turns 3 4; count 3 :6; chan 1 2 x2; spawn 0 #1; drain 2; jump :1; drain 0")))
	runs(t, w)
	shows(t, w, "1! 0! 0! 0! 0!", "s0:-1 r0:-1 s1:-1 r1:-1 s2:-1 r2:-1 s3:-1 r3:-1 s4:-1 r4:-1", "0/0[]- 2/0[]- 2/0[]- 2/0[]- 2/0[]-", "", "")
}
