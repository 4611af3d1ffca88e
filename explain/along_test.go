package explain

import (
	"slices"
	"testing"

	"pipewright/api"
)

// drops are instructions with which an end of 0 goes; uses leave it; binds give
// it a new one, as they go on to the next one; idles do nothing to it.
var (
	drops = []string{"close 0", "abandon 0", "drain 0", "give 1 0", "give 0 0", "give 9 0", "spawn 0", "spawn 1 0", "spawn 0 e0 1", "spawn 0 0", "over 0"}
	uses  = []string{"clone 1 0", "send 0", "give 0 1", "take 1 0 :99", "send 0 1", "clone 9 0"}
	binds = []string{"chan 0 1", "chan 1 0", "chan 0 0", "clone 0 1", "clone 0 0", "clone 0 9", "take 0 1 :99", "take 0 0 :99"}
	idles = []string{
		"let 0", "emit 0", "turns 0", "count 0 :99", "if 0 :99", "none 0", "chan 1 2", "clone 1 2", "send 1", "give 1 2", "close 1", "abandon 1", "drain 1",
		"spawn", "spawn e0", "spawn e0 1", "take 1 2 :99", "over 1", "close 9", "spawn -1",
	}
)

// P13: along a way an end goes with drop and over, and comes with bind; all
// else leaves it.
func TestAlong(t *testing.T) {
	for _, c := range []struct {
		lines []string
		keeps bool // an end that was there
		gives bool // one where there was none
	}{{drops, false, false}, {uses, true, false}, {idles, true, false}, {binds, true, true}} {
		for _, line := range c.lines {
			// An end of 0 is there from the beginning on, or is closed first.
			there := code("ri rri rri", 1, line+"; over 0; exit")
			closed := code("ri rri rri", 1, "close 0; "+line+"; over 0; exit")
			wantHolds(t, there, leftAt(1, 0), c.keeps, l(-1, 0, 1))
			wantHolds(t, closed, leftAt(2, 0), c.gives, l(-1, 0, 1, 2))
			there.Ins[1], closed.Ins[2] = api.Ins{Op: api.InSend}, api.Ins{Op: api.InSend}
			wantHolds(t, there, goneAt(1, 0), !c.keeps, l(-1, 0, 1))
			wantHolds(t, closed, maybeAt(2, 0), !c.gives, l(-1, 0, 1, 2))
			there.Ins[1], closed.Ins[2] = api.Ins{Op: api.InChan, B: 9}, api.Ins{Op: api.InChan, B: 9}
			wantHolds(t, there, keptAt(1, 0), c.keeps, l(-1, 0, 1))
			wantHolds(t, closed, keptAt(2, 0), c.gives, l(-1, 0, 1, 2))
		}
	}
}

// P13: what is told hangs on what the way does alone: the end goes and comes
// again and again.
func TestGoesAndComes(t *testing.T) {
	p := code("si ri", 1, "close 0; chan 0 1; close 0; chan 0 1; over 0; clone 0 1; send 0; close 0; send 0; exit")
	wantWay(t, p, goneAt(8, 0), 5, 6, 7, 8)
	wantHolds(t, p, goneAt(8, 0), true, upTo(-1, 9), upTo(1, 9), upTo(3, 9), upTo(5, 9))
	wantHolds(t, p, goneAt(8, 0), false, upTo(0, 9), upTo(2, 9), upTo(4, 9), upTo(6, 9), upTo(7, 9))
	wantWay(t, p, leftAt(4, 0), 3, 4)
	for _, n := range []api.Note{keptAt(1, 0), keptAt(3, 0), keptAt(5, 0), goneAt(2, 0), goneAt(6, 0), goneAt(7, 0), goneAt(0, 0)} {
		wantNone(t, p, n)
	}
	// It goes in one turn of a loop and comes in the other one.
	p = code("si ri", 1, "if :3; close 0; jump :4; chan 0 1; send 0; jump :0")
	wantWay(t, p, goneAt(4, 0), -1, 0, 1, 2, 4)
	wantWay(t, p, keptAt(3, 0), -1, 0, 3)
	wantWay(t, p, goneAt(1, 0), -1, 0, 1, 2, 4, 5, 0, 1)
	wantHolds(t, p, keptAt(3, 0), false, l(-1, 0, 1, 2, 4, 5, 0, 3))
	wantHolds(t, p, keptAt(3, 0), true, l(-1, 0, 1, 2, 4, 5, 0, 3, 4, 5, 0, 3))
	// It must go and come, and goes again: there is no other way.
	p = code("si ri", 1, "close 0; chan 0 1; close 0; over 0; give 1 0")
	wantWay(t, p, goneAt(4, 0), 1, 2, 3, 4)
	p = code("si ri", 1, "close 0; over 0; clone 1 0; send 0; close 0; spawn 0")
	wantWay(t, p, maybeAt(5, 0), upTo(-1, 6)...)
}

// P13: along a way, too, an InTake binds only where it goes on to the next
// instruction.
func TestTakeAlong(t *testing.T) {
	// 0 close, 1 take on to 3, 2 jump to 3, 3 send
	p := code("ri rri", 1, "drain 0; take 0 1 :3; jump :3; over 0; exit")
	wantWay(t, p, leftAt(3, 0), 1, 2, 3)
	wantHolds(t, p, leftAt(3, 0), true, l(-1, 0, 1, 2, 3))
	wantHolds(t, p, leftAt(3, 0), false, l(-1, 0, 1, 3))
	p.Ins[3] = api.Ins{Op: api.InDrain}
	wantWay(t, p, maybeAt(3, 0), -1, 0, 1, 3)
	wantHolds(t, p, goneAt(3, 0), false, l(-1, 0, 1, 2, 3), l(1, 3), l(1, 2, 3))
	// What is there stays, on the way to To.
	p = code("ri rri", 1, "let; take 0 1 :3; exit; over 0")
	wantWay(t, p, leftAt(3, 0), -1, 0, 1, 3)
	p = code("ri rri", 1, "let; take 0 1 :4; drain 0; exit; drain 0")
	wantNone(t, p, goneAt(4, 0))
	wantNone(t, p, goneAt(2, 0))
	// To is the next one.
	p = code("ri rri", 1, "drain 0; take 0 1 :2; over 0")
	wantWay(t, p, leftAt(2, 0), 1, 2)
	wantHolds(t, p, leftAt(2, 0), true, l(-1, 0, 1, 2))
	p.Ins[2] = api.Ins{Op: api.InDrain}
	nowhere(t, p, goneAt(2, 0))
	// To is itself: once more or not, it binds as it goes on.
	p = code("ri rri", 1, "drain 0; take 0 1 :1; over 0")
	wantHolds(t, p, leftAt(2, 0), true, l(-1, 0, 1, 2), l(-1, 0, 1, 1, 2), l(-1, 0, 1, 1, 1, 2), l(1, 2))
	wantHolds(t, p, leftAt(2, 0), false, l(1, 1, 2))
	wantHolds(t, p, keptAt(1, 0), false, l(-1, 0, 1), l(-1, 0, 1, 1), l(1, 1))
	p = code("ri rri", 1, "let; take 0 1 :1; over 0")
	wantHolds(t, p, keptAt(1, 0), true, l(-1, 0, 1), l(-1, 0, 1, 1))
	wantHolds(t, p, keptAt(1, 0), false, l(1, 1))
	// It uses B, which it leaves, on both ways.
	for _, to := range []string{"1", "2"} {
		p := code("ri rri", 2, "take 0 1 :"+to+"; let; over 1")
		for _, way := range [][]int{l(-1, 0, 1, 2), l(-1, 0, 2)} {
			wantHolds(t, p, leftAt(2, 1), slices.Contains(way, 1) || to == "2", way)
		}
	}
}

// P13: instructions of other variables are none of its way's.
func TestOtherVariables(t *testing.T) {
	p := code("si ri si", 3, "close 0; drain 1; chan 2 1; over 2; over 1; over 0; exit")
	wantWay(t, p, leftAt(3, 2), 2, 3)
	wantWay(t, p, leftAt(4, 1), 2, 3, 4)
	wantNone(t, p, leftAt(5, 0))
	wantNone(t, p, leftAt(4, 0))
	wantNone(t, p, leftAt(5, 1))
	wantWay(t, p, keptAt(2, 2), -1, 0, 1, 2)
	wantNone(t, p, keptAt(2, 1))
	wantNone(t, p, keptAt(2, 0))
	p = code("si ri si", 3, "spawn 0 2; spawn 1 2 0; exit")
	wantWay(t, p, goneAt(1, 2), -1, 0, 1)
	wantWay(t, p, goneAt(1, 0), -1, 0, 1)
	wantNone(t, p, goneAt(1, 1))
	wantNone(t, p, goneAt(0, 1))
}
