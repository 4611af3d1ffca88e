package order

import (
	"fmt"
	"strings"
	"testing"

	"pipewright/api"
)

// P11.2: own.Notes of each Proc, in their order, whether or not a task is of it.
func TestNotes(t *testing.T) {
	whole := proc("ri", 1, "drain 0; over 0")
	left := proc("ri", 1, "over 0")
	gone := proc("ri si ri", 1, "drain 0; chan 1 2; close 1; abandon 2; close 1; drain 2; over 1")
	wantNotes(t, code(whole), "")
	wantNotes(t, code(left), "4@0,0")
	wantNotes(t, code(gone), "1@4,1 1@5,2")
	wantNotes(t, code(left, whole, gone, left), "4@0,0 /  / 1@4,1 1@5,2 / 4@0,0")
	c := code(left, whole, gone, whole)
	for _, c.Main = range []int{0, 1, 2, 3} {
		wantNotes(t, c, "4@0,0 /  / 1@4,1 1@5,2 / ")
	}
	wantNotes(t, code(proc("ri si ri", 1, "if :2; chan 1 2; chan 1 2; close 1; if :6; abandon 2; abandon 2; over 0")), "3@2,1 3@2,2 2@6,2 4@7,0")
	wantNotes(t, lowered(t, "stage main(in recv int) { }"), "4@0,0")
	wantNotes(t, lowered(t, "stage main(in recv int) { chan s r int 1; close s; close s; drain r; drain in; }"), "1@2,1")
	wantNotes(t, lowered(t, pipe+"stage main(in recv int) { drain in; } stage g(s send int) { }"), " /  / 4@0,0")
}

// P11.2: notes are told beside ranks and beside a round.
func TestNotesBesideAll(t *testing.T) {
	c := code(proc("ri si ri", 1, "chan 1 2; over 0"))
	wantNotes(t, c, "4@1,0")
	wantRanks(t, c, 0, 0, 0, 0)
	c = code(proc("ri si ri", 1, "over 0; chan 1 2; send 1"))
	wantNotes(t, c, "4@0,0")
	wantRound(t, c, "2>2:0@2,2,1")
}

// P11.2: ranks, two nodes for each channel, of channels without waits, too.
func TestRanks(t *testing.T) {
	wantRanks(t, code(proc("ri", 1, "drain 0")), 0, 0)
	wantRanks(t, code(proc("ri", 1, "")), 0, 0)
	wantRanks(t, code(proc("ri si ri", 1, "drain 0; chan 1 2")), 0, 0, 0, 0)
	wantRanks(t, code(proc("ri si ri", 1, "drain 0; exit; chan 1 2; chan 1 2; chan 1 2")), 0, 0, 0, 0, 0, 0, 0, 0)
	wantRanks(t, code(proc("ri si ri", 1, "chan 1 2; close 1; drain 2; drain 0")), 0, 0, 0, 1)
	wantRanks(t, code(proc("ri si ri", 1, "chan 1 2; close 1; drain 0; drain 2")), 0, 1, 0, 0)
	wantRanks(t, code(proc("ri si ri", 1, "chan 1 2; abandon 2; send 1; drain 0")), 0, 1, 1, 0)
	spare := rep("chan e d int 1; close e; abandon d; ", 1)
	pipes := func(said string) api.Code { return lowered(t, pipe+"stage main(in recv int) { "+said+" }") }
	wantRanks(t, pipes("chan s r int 1; spawn f(in, s); drain r;"), 0, 1, 1, 0)
	wantRanks(t, pipes(spare+"chan s r int 1; spawn f(in, s); drain r;"), 0, 1, 0, 0, 1, 0)
	wantRanks(t, pipes("chan s r int 1;"+spare+"spawn f(in, s); drain r;"), 0, 1, 1, 0, 0, 0)
	wantRanks(t, pipes("chan s r int 1; chan u v int 1; spawn f(in, s); spawn f(r, u); drain v;"), 0, 2, 1, 1, 2, 0)
	wantRanks(t, pipes("chan s r int 1; chan u v int 1; spawn f(r, u); spawn f(in, s); drain v;"), 0, 2, 1, 1, 2, 0)
}

// ring has n channels and n tasks, each of which copies from one to the next
// one, the last one to the first one.
func ring(n int, more string) api.Code {
	f := proc("ri si i", 2, "take 2 0 :3; send 1; jump :0; drain 0; close 1")
	types, chans, spawns := "ri", "", ""
	for k := range n {
		types += " si ri"
		chans += fmt.Sprintf("chan %d %d;", 1+2*k, 2+2*k)
		spawns += fmt.Sprintf("spawn 0 %d %d;", 2+2*k, 1+2*((k+1)%n))
	}
	return code(f, proc(types, 1, "drain 0;"+chans+more+spawns))
}

// P11.2: a round of one edge, of two, of many, from its first node on.
func TestRounds(t *testing.T) {
	wantRound(t, code(proc("ri si ri", 1, "abandon 0; chan 1 2; send 1")), "2>2:0@2,2,1")
	wantRound(t, code(proc("ri si ri", 1, "abandon 0; chan 1 2; drain 2")), "3>3:0@2,1,2")
	for n := 1; n < 30; n++ {
		var want []string
		for k := range n {
			want = append(want, fmt.Sprintf("%d>%d:%d@1,0,1", 2+2*k, 2+2*((k+1)%n), k+1))
		}
		wantRound(t, ring(n, ""), strings.Join(want, " "))
	}
}

// P11.2: of several rounds the one of ranks.Round: the shortest, then the one
// with the least nodes.
func TestSeveralRounds(t *testing.T) {
	// Of the channel 1 alone there is one of each kind of node.
	wantRound(t, code(proc("ri si ri", 1, "abandon 0; chan 1 2; drain 2; send 1")), "3>3:0@2,1,2")
	wantRound(t, code(proc("ri si ri", 1, "abandon 0; chan 1 2; if :4; drain 2; send 1")), "2>2:0@4,2,1")
	two := func(first, other string) api.Code {
		return code(proc("ri si ri si ri", 1, "abandon 0; chan 1 2; chan 3 4; if :6;"+first+"; exit;"+other))
	}
	wantRound(t, two("drain 2", "drain 4"), "3>3:0@4,1,2")
	wantRound(t, two("drain 4", "drain 2"), "3>3:0@6,1,2")
	wantRound(t, two("send 3", "drain 2"), "3>3:0@6,1,2")
	wantRound(t, two("drain 2", "send 1"), "2>2:0@6,2,1")
	// A short one among high nodes is told, not a long one among low ones.
	c := ring(5, "")
	p := &c.Procs[1]
	p.Vars = append(p.Vars, api.Var{T: "si"}, api.Var{T: "ri"})
	last := len(p.Ins) - 1
	p.Ins = append(p.Ins[:last:last], api.Ins{Op: api.InChan, A: 11, B: 12, N: 1, T: "i"}, api.Ins{Op: api.InDrain, A: 12}, api.Ins{Op: api.InExit})
	wantRound(t, c, fmt.Sprintf("13>13:0@%d,11,12", last+1))
}

// P11.2: two tasks that send to one another, as the chapter and DOC.md have it.
func TestExampleOfARound(t *testing.T) {
	c := lowered(t, pipe+"stage main(in recv int) { drain in; chan a b int 1; chan c d int 1; spawn f(b, c); spawn f(d, a); }")
	wantWaits(t, c, `
		5>3:1@0,1,0 2>4:1@1,0,1 5>3:1@3,1,0
		3>5:2@0,1,0 4>2:2@1,0,1 3>5:2@3,1,0`)
	wantRound(t, c, "2>4:1@1,0,1 4>2:2@1,0,1")
	wantNotes(t, c, " / ")
	wantFine(t, c, false)
	wantNarrow(t, c, false)
	c = lowered(t, pipe+"stage main(in recv int) { chan s r int 1; spawn f(in, s); drain r; }")
	wantRanks(t, c, 0, 1, 1, 0)
	wantNotes(t, c, " / ")
	wantFine(t, c, true)
	wantNarrow(t, c, true)
}

// P11.2: of several waits with one From and To the first one: by tasks, by
// instructions, by Held.
func TestFirstOfSeveralWaits(t *testing.T) {
	// Instructions.
	wantRound(t, code(proc("ri si ri", 1, "abandon 0; chan 1 2; send 1; send 1; send 1")), "2>2:0@2,2,1")
	// Held: the clone has a higher number, or a lower one.
	wantRound(t, code(proc("ri si ri si", 1, "abandon 0; chan 1 2; clone 3 1; drain 2")), "3>3:0@3,1,2")
	wantRound(t, code(proc("ri si si ri", 1, "abandon 0; chan 2 3; clone 1 2; drain 3")), "3>3:0@3,1,3")
	// An instruction that stands ahead is told with another Held.
	wantRound(t, code(proc("ri si si ri", 1, "abandon 0; chan 2 3; drain 3; clone 1 2; drain 3")), "3>3:0@2,2,3")
	// Tasks: the round goes through the second one's instruction 0, and the first
	// one's instruction 2.
	f := proc("ri si", 2, "emit; emit; send 1")
	g := proc("ri si", 2, "send 1")
	two := func(more string) api.Code {
		return code(f, g, proc("ri si ri si ri", 1, "abandon 0; chan 1 2; chan 3 4;"+more))
	}
	wantRound(t, two("spawn 0 2 1; spawn 1 2 1"), "2>2:1@2,0,1")
	wantRound(t, two("spawn 1 2 1; spawn 0 2 1"), "2>2:1@0,0,1")
	wantRound(t, two("spawn 0 2 3; spawn 1 2 3; spawn 1 4 1; spawn 0 4 1"), "2>4:1@2,0,1 4>2:3@0,0,1")
	wantRound(t, two("spawn 0 4 1; spawn 1 4 1; spawn 1 2 3; spawn 0 2 3"), "2>4:3@0,0,1 4>2:1@2,0,1")
	wantRound(t, two("spawn 0 4 1; spawn 1 2 3; spawn 1 4 1; spawn 0 2 3; spawn 0 4 1"), "2>4:2@0,0,1 4>2:1@2,0,1")
}

// P11.2: the first of the waits, each of several channels.
func TestFirstOfSeveralChannels(t *testing.T) {
	// 1 and 2 may be of the channels 1 and 2, 3 and 4 of 3 and 4.
	ahead := "abandon 0; chan 1 2; chan 1 2; chan 3 4; chan 3 4;"
	wantRanks(t, code(proc("ri si ri si ri", 1, ahead+"abandon 2; abandon 4; send 1; send 3")), 0, 0, 1, 0, 1, 0, 1, 0, 1, 0)
	wantRanks(t, code(proc("ri si ri si ri", 1, ahead+"close 3; abandon 2; send 1; close 1; drain 4")), 0, 0, 1, 0, 1, 0, 0, 0, 0, 0)
	wantRanks(t, code(proc("ri si ri si ri", 1, ahead+"close 1; close 3; drain 4; drain 2")), 0, 0, 0, 0, 0, 0, 0, 1, 0, 1)
	c := code(proc("ri si ri si ri", 1, ahead+"if :10; close 1; abandon 4; drain 2; exit; abandon 2; close 3; send 1"))
	wantRanks(t, c, 0, 0, 1, 1, 1, 1, 0, 0, 0, 0)
	c = code(proc("ri si ri si ri", 1, ahead+"if :10; close 1; close 3; drain 2; exit; close 1; abandon 4; drain 2; exit"))
	wantRanks(t, c, 0, 0, 0, 1, 0, 1, 0, 0, 0, 0)
	c = code(proc("ri si ri si ri", 1, ahead+"if :10; abandon 2; close 3; send 1; exit; abandon 4; close 1; send 3"))
	wantRound(t, c, "2>6:0@12,2,3 6>2:0@8,4,1")
}

// P11.2: there are far more waits than a graph may have edges.
func TestManyWaits(t *testing.T) {
	said := rep("chan 1 2;", 14) + "abandon 0; abandon 2;" + rep("chan 3 4;", 15) + rep("send 1;", 300)
	c := code(proc("ri si ri si ri", 1, said))
	if n := len(waitsOf(t, c)); n != 300*2*15*14 {
		t.Fatalf("%d waits", n)
	}
	ranks := make([]int, 60)
	for k := 1; k < 15; k++ {
		ranks[2*k] = 1
	}
	wantRanks(t, c, ranks...)
	c = code(proc("ri si ri si ri", 1, said+"drain 4"))
	wantRound(t, c, "31>31:0@331,3,4")
}

// P11.3
func TestFine(t *testing.T) {
	note, wait := api.Note{Rule: api.RuleLeft}, api.Wait{}
	for _, c := range []struct {
		v    api.Verdict
		want bool
	}{
		{api.Verdict{}, true},
		{api.Verdict{Notes: [][]api.Note{}, Ranks: []int{}, Round: []api.Wait{}}, true},
		{api.Verdict{Notes: [][]api.Note{nil, {}, nil}, Ranks: []int{0, 1}}, true},
		{api.Verdict{Notes: [][]api.Note{{note}}}, false},
		{api.Verdict{Notes: [][]api.Note{{}, nil, {note, note}}, Ranks: []int{0, 0}}, false},
		{api.Verdict{Notes: [][]api.Note{{note}, nil, nil}, Ranks: []int{0, 0}}, false},
		{api.Verdict{Notes: [][]api.Note{{api.Note{}}}}, false},
		{api.Verdict{Round: []api.Wait{wait}}, false},
		{api.Verdict{Notes: [][]api.Note{{}, {}}, Round: []api.Wait{wait, wait}}, false},
		{api.Verdict{Notes: [][]api.Note{{}}, Ranks: []int{0, 0}, Round: []api.Wait{wait}}, false},
		{api.Verdict{Notes: [][]api.Note{{note}}, Round: []api.Wait{wait}}, false},
		{api.Verdict{Ranks: []int{5, 3}}, true},
	} {
		if got := Fine(c.v); got != c.want {
			t.Errorf("Fine(%v): %v, want %v", c.v, got, c.want)
		}
	}
}

// P11.3: of what Judge tells.
func TestFineOfCode(t *testing.T) {
	for _, c := range []struct {
		said string
		want bool
	}{
		{"drain 0", true},
		{"over 0", false},
		{"abandon 0; chan 1 2; send 1; close 1; drain 2; over 1", false},
		{"chan 1 2; send 1; over 0", false},
		{"chan 1 2; abandon 2; send 1; close 1; drain 0; over 0; over 1; over 2", true},
		{"chan 1 2; close 1; close 1; drain 2; drain 0", false},
	} {
		wantFine(t, code(proc("ri si ri", 1, c.said)), c.want)
	}
	spoilt := code(proc("si", 1, "over 0"), proc("ri", 1, "drain 0"))
	wantFine(t, spoilt, false)
	spoilt.Main, spoilt.Procs = 0, []api.Proc{spoilt.Procs[1], spoilt.Procs[0]}
	wantFine(t, spoilt, false)
}
