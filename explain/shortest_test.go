package explain

import (
	"testing"

	"pipewright/api"
)

// P13.1: of several ways the shortest, whatever its numbers are.
func TestShortest(t *testing.T) {
	// 0 if on to 4; 1 chan 2 let 3 jump to 6; 4 chan 5 jump to 6; 6 over
	p := code("si ri", 0, "if :4; chan 0 1; let; jump :6; chan 0 1; jump :6; over 0; exit")
	wantWay(t, p, leftAt(6, 0), 4, 5, 6)
	wantHolds(t, p, leftAt(6, 0), true, l(1, 2, 3, 6))
	// A parameter's way is longer than that of what binds it again.
	p = code("si ri", 1, "let; let; close 0; let; chan 0 1; let; over 0")
	wantWay(t, p, leftAt(6, 0), 4, 5, 6)
	wantHolds(t, p, leftAt(6, 0), true, upTo(-1, 7))
	// ... or shorter.
	p = code("si ri", 1, "if :5; let; close 0; let; chan 0 1; let; let; let; over 0")
	wantWay(t, p, leftAt(8, 0), 4, 5, 6, 7, 8)
	p = code("si ri", 1, "if :7; let; close 0; let; chan 0 1; let; let; let; over 0")
	wantWay(t, p, leftAt(8, 0), -1, 0, 7, 8)
	// The short one does not show it.
	p = code("si ri", 0, "chan 0 1; if :6; let; close 0; let; jump :6; close 0")
	wantWay(t, p, maybeAt(6, 0), 0, 1, 2, 3, 4, 5, 6)
	wantHolds(t, p, maybeAt(6, 0), false, l(0, 1, 6))
	// One that is come to as soon, with an end and without one.
	p = code("si ri", 0, "chan 0 1; if :3; close 0; let; let; close 0; over 0")
	wantWay(t, p, maybeAt(5, 0), 0, 1, 2, 3, 4, 5)
	wantNone(t, p, leftAt(6, 0))
}

// P13.1: of ways as short that with the lower number where they differ first:
// at the first number.
func TestLowerAtTheFirst(t *testing.T) {
	p := code("si ri", 0, "if :3; chan 0 1; jump :5; chan 0 1; jump :5; over 0")
	wantWay(t, p, leftAt(5, 0), 1, 2, 5)
	wantHolds(t, p, leftAt(5, 0), true, l(3, 4, 5))
	// -1 is lower than all.
	p = code("si ri", 1, "if :3; chan 0 1; jump :3; over 0")
	wantWay(t, p, leftAt(3, 0), -1, 0, 3)
	// The first number counts most: behind it the numbers are higher.
	p = code("si ri", 0, "chan 0 1; jump :7; chan 0 1; jump :5; let; jump :9; let; jump :9; let; over 0")
	wantWay(t, p, leftAt(9, 0), 0, 1, 7, 9)
	wantHolds(t, p, leftAt(9, 0), true, l(2, 3, 5, 9))
	// ... also where both come to one spot.
	p = code("si ri", 0, "chan 0 1; jump :6; let; chan 0 1; jump :6; exit; let; over 0")
	wantWay(t, p, leftAt(7, 0), 0, 1, 6, 7)
	wantHolds(t, p, leftAt(7, 0), true, l(3, 4, 6, 7))
	// The higher one is gone on from to a lower one.
	p = code("si ri", 0, "jump :3; over 0; exit; chan 0 1; jump :1; chan 0 1; jump :1")
	wantWay(t, p, leftAt(1, 0), 3, 4, 1)
	wantHolds(t, p, leftAt(1, 0), true, l(5, 6, 1))
}

// P13.1: ways as short that differ in between, early and late.
func TestLowerInBetween(t *testing.T) {
	// 0 chan 1 if on to 4; 2 let 3 jump to 6; 4 let 5 jump to 6; 6 over
	p := code("si ri", 0, "chan 0 1; if :4; let; jump :6; let; jump :6; over 0")
	wantWay(t, p, leftAt(6, 0), 0, 1, 2, 3, 6)
	wantHolds(t, p, leftAt(6, 0), true, l(0, 1, 4, 5, 6))
	// To is the lower one.
	p = code("si ri", 0, "jump :4; let; jump :8; exit; chan 0 1; if :1; let; jump :8; over 0")
	wantWay(t, p, leftAt(8, 0), 4, 5, 1, 2, 8)
	wantHolds(t, p, leftAt(8, 0), true, l(4, 5, 6, 7, 8))
	// The lower one does not show it.
	p = code("si ri", 0, "chan 0 1; if :4; let; jump :6; close 0; jump :6; close 0")
	wantWay(t, p, maybeAt(6, 0), 0, 1, 4, 5, 6)
	wantHolds(t, p, maybeAt(6, 0), false, l(0, 1, 2, 3, 6))
	p = code("si ri", 0, "chan 0 1; if :4; close 0; jump :6; let; jump :6; over 0")
	wantWay(t, p, leftAt(6, 0), 0, 1, 4, 5, 6)
	// Early a lower one and then a higher one: early counts.
	// 0 chan 1 if on to 4; 2 let 3 jump to 9; 4 let 5 jump to 7; 6 exit; 7 let 8 jump to 11; 9 let 10 jump to 11; 11 over
	p = code("si ri", 0, "chan 0 1; if :4; let; jump :9; let; jump :7; exit; let; jump :11; let; jump :11; over 0")
	wantWay(t, p, leftAt(11, 0), 0, 1, 2, 3, 9, 10, 11)
	wantHolds(t, p, leftAt(11, 0), true, l(0, 1, 4, 5, 7, 8, 11))
	// Two forks: the lower one at each.
	p = code("si ri", 0, "chan 0 1; if :4; let; jump :6; let; jump :6; if :9; let; jump :11; let; jump :11; over 0")
	wantWay(t, p, leftAt(11, 0), 0, 1, 2, 3, 6, 7, 8, 11)
	// ... each showing it by a higher one, as it must go once.
	p = code("si ri", 0, "chan 0 1; if :4; let; jump :6; close 0; jump :6; if :9; close 0; jump :11; let; jump :11; close 0")
	wantWay(t, p, maybeAt(11, 0), 0, 1, 2, 3, 6, 7, 8, 11)
	wantHolds(t, p, maybeAt(11, 0), true, l(0, 1, 4, 5, 6, 9, 10, 11), l(0, 1, 4, 5, 6, 7, 8, 11))
	// The last but one.
	p = code("si ri", 0, "chan 0 1; if :3; jump :4; jump :4; over 0")
	wantWay(t, p, leftAt(4, 0), 0, 1, 2, 4)
	wantHolds(t, p, leftAt(4, 0), true, l(0, 1, 3, 4))
}

// P13.1: each instruction that forks.
func TestForks(t *testing.T) {
	for _, fork := range []string{"if :4", "count 2 :4", "take 2 2 :4"} {
		p := code("si ri i", 0, "chan 0 1; "+fork+"; close 0; send 0; over 0; send 0")
		wantWay(t, p, leftAt(4, 0), 0, 1, 4)
		wantWay(t, p, goneAt(3, 0), 0, 1, 2, 3)
		wantWay(t, p, goneAt(5, 0), 0, 1, 4, 5)
	}
	p := code("si ri", 0, "chan 0 1; jump :4; close 0; send 0; over 0; send 0")
	wantWay(t, p, leftAt(4, 0), 0, 1, 4)
	wantNone(t, p, goneAt(3, 0))
	// Others have no To.
	for _, line := range []string{"let :3", "emit :3", "turns 2 :3", "send 0 :3", "none :3", "spawn :3", "clone 1 0 :3"} {
		p := code("si ri i", 0, "chan 0 1; "+line+"; let; over 0")
		wantWay(t, p, leftAt(3, 0), 0, 1, 2, 3)
		wantHolds(t, p, leftAt(3, 0), false, l(0, 1, 3))
	}
	p = code("si ri i", 0, "chan 0 1; exit :2; over 0")
	nowhere(t, p, leftAt(2, 0))
}

// P13.1: loops, which are gone round where that is needed, and no more often.
func TestLoops(t *testing.T) {
	// 0 chan 1 count on to 4; 2 close 3 jump to 1; 4 over
	p := code("si ri i", 0, "chan 0 1; count 2 :4; close 0; jump :1; over 0")
	wantWay(t, p, maybeAt(2, 0), 0, 1, 2, 3, 1, 2)
	wantHolds(t, p, maybeAt(2, 0), true, l(0, 1, 2, 3, 1, 2, 3, 1, 2))
	wantHolds(t, p, maybeAt(2, 0), false, l(0, 1, 2), l(1, 2, 3, 1, 2))
	wantWay(t, p, leftAt(4, 0), 0, 1, 4)
	wantHolds(t, p, leftAt(4, 0), false, l(0, 1, 2, 3, 1, 4))
	// A loop within a loop: the inner one is shorter.
	p = code("si ri i", 0, "chan 0 1; count 2 :8; count 2 :6; if :5; close 0; jump :2; let; jump :1; exit")
	wantWay(t, p, maybeAt(4, 0), 0, 1, 2, 3, 4, 5, 2, 3, 4)
	// The loop binds it, too.
	p = code("si ri i", 0, "count 2 :6; chan 0 1; if :4; close 0; over 0; jump :0; exit")
	wantWay(t, p, leftAt(4, 0), 1, 2, 4)
	wantNone(t, p, goneAt(3, 0))
	wantNone(t, p, keptAt(1, 0))
	p = code("si ri i", 0, "count 2 :5; chan 0 1; if :4; close 0; jump :0; exit")
	wantWay(t, p, keptAt(1, 0), 1, 2, 4, 0, 1)
	// Through the same places with an end, and then without one.
	p = code("si ri", 0, "chan 0 1; send 0; if :5; close 0; jump :1; exit")
	wantWay(t, p, maybeAt(1, 0), 0, 1, 2, 3, 4, 1)
	wantWay(t, p, maybeAt(3, 0), 0, 1, 2, 3, 4, 1, 2, 3)
}

// P13.1: instructions that lead to themselves.
func TestThemselves(t *testing.T) {
	for _, fork := range []string{"if :1", "count 2 :1", "take 2 2 :1"} {
		p := code("si ri i", 0, "chan 0 1; "+fork+"; over 0")
		wantWay(t, p, leftAt(2, 0), 0, 1, 2)
		wantHolds(t, p, leftAt(2, 0), true, l(0, 1, 1, 2), l(0, 1, 1, 1, 1, 2))
		wantHolds(t, p, leftAt(2, 0), false, l(0, 0, 1, 2), l(0, 1, 2, 2))
	}
	p := code("si ri", 0, "chan 0 1; jump :1; over 0")
	nowhere(t, p, leftAt(2, 0))
	nowhere(t, p, leftAt(1, 0))
	// One that uses it, too.
	p = code("ri rri", 2, "drain 1; take 0 1 :1; exit")
	wantWay(t, p, goneAt(1, 1), -1, 0, 1)
	wantHolds(t, p, goneAt(1, 1), true, l(-1, 0, 1, 1), l(-1, 0, 1, 1, 1))
	wantWay(t, p, keptAt(1, 0), -1, 0, 1)
	// From the first one back to it.
	p = code("ri rri", 1, "take 0 1 :0; jump :0")
	wantWay(t, p, keptAt(0, 0), -1, 0)
	wantHolds(t, p, keptAt(0, 0), true, l(-1, 0, 0), l(0, 1, 0), l(0, 1, 0, 0))
	wantHolds(t, p, keptAt(0, 0), false, l(0, 0), l(0, 0, 0), l(0))
}

// P13.1: instructions that no way comes to: ways begin there all the same, as
// they begin with whatever binds it; none leads there from elsewhere.
func TestWhereNoWayComes(t *testing.T) {
	p := code("si ri", 0, "exit; chan 0 1; over 0")
	wantWay(t, p, leftAt(2, 0), 1, 2)
	p = code("si ri", 1, "jump :3; chan 0 1; close 0; close 0; exit")
	wantWay(t, p, goneAt(3, 0), 1, 2, 3)
	wantNone(t, p, goneAt(2, 0))
	p = code("si ri", 1, "jump :3; let; over 0; over 0; exit")
	wantNone(t, p, leftAt(2, 0))
	wantWay(t, p, leftAt(3, 0), -1, 0, 3)
	wantHolds(t, p, leftAt(3, 0), false, l(2, 3), l(-1, 0, 1, 2, 3))
	// A shorter way from there than from the beginning.
	p = code("si ri", 1, "let; jump :4; exit; chan 0 1; over 0")
	wantWay(t, p, leftAt(4, 0), 3, 4)
	wantHolds(t, p, leftAt(4, 0), true, l(-1, 0, 1, 4))
}

// P13.1: To that leads nowhere, and the end of the Proc.
func TestNowhere(t *testing.T) {
	for _, to := range append(l(-1, 4), wild...) {
		p := code("si ri", 0, "chan 0 1; if; let; over 0")
		p.Ins[1].To = to
		wantWay(t, p, leftAt(3, 0), 0, 1, 2, 3)
		wantHolds(t, p, leftAt(3, 0), false, l(0, 1, to), l(0, 1, to, 3), l(0, 1, 2, 3, to))
		p.Ins[1].Op = api.InJump
		wantNone(t, p, leftAt(3, 0))
		p.Ins[3] = api.Ins{Op: api.InChan}
		wantNone(t, p, leftAt(0, 0))
	}
	// What binds it is the last one.
	nowhere(t, code("si ri", 0, "let; chan 0 1"), keptAt(1, 0))
	nowhere(t, code("si ri", 0, "let; clone 0 1"), keptAt(1, 0))
}
