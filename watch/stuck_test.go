package watch

import (
	"fmt"
	"strings"
	"testing"

	"pipewright/api"
)

// P18.1: RunStuck: one task waits, whatever it waits for, and whoever is over.
func TestStuckByEachWait(t *testing.T) {
	types := "ri si ri ssi rsi i si ri"
	for _, x := range []struct {
		ahead, waits string
		steps        int
	}{
		{"chan 1 2; send 1 5", "send 1 6", 2},
		{"chan 1 2 x3; send 1 5; send 1 6; send 1 7", "send 1 8", 4},
		{"chan 3 4; chan 1 2; give 3 1; chan 1 2", "give 3 1", 4},
		{"chan 1 2", "drain 2", 1},
		{"chan 1 2; send 1 5", "drain 2", 3},
		{"chan 1 2", "take 5 2 :0", 1},
		{"chan 3 4", "take 6 4 :0", 1},
		{"chan 1 2; clone 6 1; close 1", "take 5 2 :0", 3},
	} {
		alone := mainOf(types, x.ahead+"; "+x.waits)
		wants(t, alone, nil, nil, 100, fmt.Sprintf("stuck %d: ; %s", x.steps, stuckEvent))
		wants(t, alone, in(1, 2, 3), l(5, -5), 100, fmt.Sprintf("stuck %d: ; %s", x.steps, stuckEvent))
		// The task 1 is it now; main is over, and leaves what came in.
		other := code(proc("i "+types[3:], 1, x.ahead+"; "+x.waits), proc("ri", 1, "spawn 0 7; drain 0"))
		wants(t, other, nil, nil, 100, fmt.Sprintf("stuck %d: ; %s", x.steps+3, stuckEvent))
		wants(t, other, in(8), l(0, -1, -1, -1, 1, 1, 1, 1), 100, fmt.Sprintf("stuck %d: ; %s", x.steps+4, stuckEvent))
	}
}

// P18.1: EventStuck comes once, behind all others, however many wait.
func TestStuckBehindOthers(t *testing.T) {
	waits := proc("ri i", 1, "take 1 0 :0")
	for n := range 6 {
		main := "close 1"
		for range n {
			main += "; chan 1 2; spawn 0 #2"
		}
		c := code(waits, proc("ri si ri", 1, main+"; emit 4"))
		want := fmt.Sprintf("none:0@%d:-1 leak:0@%d:1", place(0), place(2*n+2))
		for k := range n {
			want += fmt.Sprintf(" leak:0@%d:%d", place(2*n+2), 2*k+2)
		}
		if n == 0 {
			wants(t, c, nil, nil, 100, "over 3: 4; "+want)
			continue
		}
		wants(t, c, nil, nil, 100, fmt.Sprintf("stuck %d: 4; %s %s", 2*n+3, want, stuckEvent))
	}
}

// P18.1: two tasks that wait for each other, and one that waits for them.
func TestStuckByEachOther(t *testing.T) {
	c := lowered(t, `stage f(a recv int, b send int) { for x from a { send b x; } drain a; close b; }
stage main(in recv int) { chan s r int 1; chan u v int 1; spawn f(r, u); spawn f(v, s); drain in; }`)
	wants(t, c, nil, nil, 100, "stuck 11: ; "+stuckEvent)
	wants(t, c, in(1, 2), l(2, 2, 2, 2, 2), 100, "stuck 13: ; "+stuckEvent)
}

// P18.1: RunOver: all are over, whatever is left, and whatever was wrong.
func TestOver(t *testing.T) {
	wants(t, mainOf("ri", ""), nil, nil, 100, fmt.Sprintf("over 1: ; leak:0@%d:1", place(0)))
	wants(t, mainOf("ri", "drain 0"), nil, nil, 100, "over 2: ;")
	wants(t, mainOf("ri", "drain 0"), in(1, 2, 3), nil, 100, "over 5: ;")
	wants(t, mainOf("ri", "abandon 0"), in(1, 2, 3), nil, 100, "over 2: ;")
	wants(t, mainOf("ri si ri", "abandon 0; chan 1 2; send 1 5"), nil, nil, 100, fmt.Sprintf("over 4: ; leak:0@%d:2 leak:0@%d:3", place(3), place(3)))
	for n := range 9 {
		c := code(proc("i", 1, "emit v0"), proc("ri", 1, "drain 0"+rep("; spawn 0 5", n)))
		wants(t, c, nil, nil, 100, fmt.Sprintf("over %d: %s;", 3*n+2, strings.TrimSpace(rep("5 ", n))))
		wants(t, c, nil, l(-1, -2, 3, 7, -1, -1, 1, 1), 100, fmt.Sprintf("over %d: %s;", 3*n+2, strings.TrimSpace(rep("5 ", n))))
	}
}

// P18.1: a task that has to wait goes on again, as others do what it waits for;
// that is no end.
func TestWaitedAndOver(t *testing.T) {
	copies := proc("ri si i", 2, "take 2 0 :3; send 1 v2; jump :0; drain 0; over 0; close 1; over 1")
	c := code(copies, proc("ri si ri i", 1, "chan 1 2; spawn 0 #0 #1; take 3 2 :5; emit v3; jump :2; drain 2"))
	for _, picks := range [][]int{nil, l(0, 0, 1, 1, 1, 1, 1, 1), l(-1, 1, -1, 1, -1, 1), l(3, 1, 4, 1, 5, 9, 2, 6, 5, 3, 5)} {
		wants(t, c, in(7, 8, 9), picks, 100, "over 29: 7 8 9;")
	}
}

// P18.1: what is wrong lets a task go on that would have to wait else.
func TestWrongIsNotStuck(t *testing.T) {
	holds := proc("si", 1, "drain 0")
	holds.Ins[0] = api.Ins{Op: api.InJump, To: 0}
	c := code(holds, proc("ri si ri", 1, "drain 0; chan 1 2; send 1 5; spawn 0 #1; send 1 6; abandon 2"))
	wants(t, c, nil, nil, 7, fmt.Sprintf("cut 7: ; moved:0@%d:2", place(4)))
	ends := proc("si", 1, "close 0")
	c = code(ends, proc("ri si ri", 1, "drain 0; chan 1 2; send 1 5; spawn 0 #1; send 1 6; abandon 2"))
	wants(t, c, nil, nil, 100, fmt.Sprintf("over 9: ; moved:0@%d:2", place(4)))
	wants(t, c, nil, l(0, 0, 0, 0, 1, 1), 100, fmt.Sprintf("over 9: ; sent:0@%d:2", place(4)))
}
