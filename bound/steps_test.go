package bound

import (
	"fmt"
	"testing"

	"pipewright/api"
)

// P12.1: each instruction counts as often as its Block is gone through.
func TestStepsOfBlocks(t *testing.T) {
	wantSteps(t, code(proc("ri", 1, "", "")), 5, 1)
	passes := []int{1, 5, 15, 15, 1, 4, 0, 20}
	for at, n := range passes {
		wantSteps(t, code(spread(fmt.Sprintf("emit @%d", at))), 5, 1+n)
		wantSteps(t, code(spread(rep(fmt.Sprintf("emit @%d;", at), 9))), 5, 1+9*n)
		for other, m := range passes {
			wantSteps(t, code(spread(fmt.Sprintf("emit @%d; jump @%d", at, other))), 5, 1+n+m)
		}
		exit := spread("")
		exit.Ins[0].Block = at
		wantSteps(t, code(exit), 5, n)
	}
}

// P12.1: of an instruction whose Loop is not 0 E of that, too; whatever its Op
// is.
func TestStepsOfLoops(t *testing.T) {
	passes := []int{1, 5, 15, 15, 1, 4, 0, 20}
	for at, n := range passes {
		for loop, m := range passes {
			if loop == 0 {
				m = 0
			}
			wantSteps(t, code(spread(fmt.Sprintf("emit @%d %%%d", at, loop))), 5, 1+n+m)
			wantSteps(t, code(spread(fmt.Sprintf("if @%d %%%d; jump %%%d", at, loop, loop))), 5, 1+n+m+1+m)
		}
	}
	const types = "ri i si ri sri rri si"
	for _, c := range []struct {
		ins   string
		drawn int // what else it counts
	}{
		{"let 1", 0}, {"emit", 0}, {"chan 2 3", 0}, {"clone 2 6", 0}, {"send 2", 0}, {"give 4 0", 0}, {"close 2", 0}, {"abandon 0", 0},
		{"drain 0", 11}, {"spawn 0", 1}, {"take 1 0", 0}, {"turns 1", 0}, {"count 1", 0}, {"if", 0}, {"jump", 0}, {"over 0", 0}, {"exit", 0},
	} {
		for loop, m := range []int{0, 11, 6, 12} {
			main := proc(types, 1, "for 0 0; repeat 0 6; repeat 2 2", fmt.Sprintf("%s %%%d", c.ins, loop))
			wantSteps(t, code(proc("", 0, "", ""), main), 11, 1+1+m+c.drawn)
		}
	}
}

// P12.1: of an InDrain what may go through the channels that A may be, too: of
// none, of one, of several; as often as there are such instructions, wherever
// they stand.
func TestStepsOfDrains(t *testing.T) {
	for _, c := range []struct {
		said string
		want int
	}{
		{"drain 0", 2 + 9},
		{"drain 0; drain 0", 3 + 18},
		{"drain 0 @1", 1 + 9},     // in a block that is never gone through
		{"drain 0 @2", 1 + 6 + 9}, // 6 times, but what may go through is one sum
		{"drain 0 @3", 1 + 9 + 9}, //
		{"drain 0 %3", 2 + 9 + 9}, //
		{"drain 2", 2},            // of no channel
		{"chan 1 2; drain 2", 3},  // of one that nothing goes through
		{"chan 1 2; send 1; drain 2", 4 + 1},
		{"chan 1 2; send 1 @2; drain 2", 3 + 6 + 6},
		{"chan 1 2; chan 1 2; send 1; drain 2", 5 + 2}, // of two
		{"chan 1 2; chan 3 2; send 1; send 3; send 3; drain 2; drain 4", 8 + 3},
		{"chan 1 2; chan 3 4; send 1; send 3; send 3; drain 2", 7 + 1},
		{"chan 1 2; chan 3 4; send 1; send 3; send 3; drain 4", 7 + 2},
		{"chan 5 6; give 5 0; take 2 6; drain 2", 5 + 9},
		{"chan 5 6; give 5 0; take 2 6; chan 1 2; send 1; drain 2; drain 6", 8 + 9 + 1 + 1},
		{"abandon 0; take 7 0; close 1; over 0", 5}, // no drains
	} {
		wantSteps(t, code(proc("ri si ri si ri sri rri i", 1, "repeat 0 0; repeat 0 6; for 0 0", c.said)), 9, c.want)
	}
}

// P12.1: of all tasks, those of one stage each for itself; not of stages without
// a task.
func TestStepsOfTasks(t *testing.T) {
	below := proc("ri", 1, "for 0 0; repeat 0 3", "if %1; emit @1; emit @2; drain 0")
	of := func(begun, through int) int { return begun + through + through + 3*begun + begun + through + begun }
	main := proc("ri si ri si ri", 1, "repeat 0 4", "chan 1 2; chan 3 4; send 1; send 1; spawn 0 2; spawn 0 4; spawn 0 0")
	wantSteps(t, code(below, main), 7, 8+of(1, 2)+of(1, 0)+of(1, 7))
	main = proc("ri si ri si ri", 1, "repeat 0 4", "chan 1 2; chan 3 4; send 1; send 1; spawn 0 2 @1; spawn 0 4; spawn 0 0 @1")
	wantSteps(t, code(below, main), 7, 6+4+4+of(4, 2)+of(1, 0)+of(4, 7))
	wantSteps(t, code(below, proc("ri", 1, "", "")), 7, 1)
	c := code(below, proc("ri", 1, "", "emit"), below)
	c.Main = 1
	wantSteps(t, c, 7, 2)
}

// P12.1: of programs, by hand.
func TestStepsOfPrograms(t *testing.T) {
	for n := range 40 {
		wantSteps(t, mainOf(t, "drain in;"), n, 3+n)
		wantSteps(t, mainOf(t, "abandon in;"), n, 3)
		// InTake, InEmit, InJump, InDrain, InOver, InExit
		wantSteps(t, mainOf(t, "for x from in { emit x; } drain in;"), n, 1+n+n+n+1+n+1+1)
		// InTake, InEmit, InJump, InEmit, and so on: either way counts
		wantSteps(t, mainOf(t, "take x from in { emit x; } else { emit 0; } drain in;"), n, 4+1+n+1+1)
		// InIf, InEmit, InJump; InDrain ..
		wantSteps(t, mainOf(t, "if 1 { emit 1; } drain in;"), n, 3+1+n+1+1)
		// InTurns, InCount, InEmit, InJump
		for k := range 9 {
			turns := min(k, api.MaxTurns)
			wantSteps(t, mainOf(t, fmt.Sprintf("repeat %d { emit 1; } drain in;", k)), n, 1+1+3*turns+1+n+1+1)
		}
		wantSteps(t, mainOf(t, "repeat 1 + 1 { emit 1; } drain in;"), n, 1+1+3*6+1+n+1+1)
		// f: InTake, InTurns, InCount, InSend, InJump, InJump, InDrain, InClose,
		// InOver, InOver, InExit; main: InChan, InSpawn, InDrain, InOver three
		// times, InExit
		c := lowered(t, "stage f(a recv int, b send int) { for x from a { repeat 2 { send b x; } } drain a; close b; } stage main(in recv int) { chan s r int 1; spawn f(in, s); drain r; }")
		wantSteps(t, c, n, 1+n+n+n+2*n+2*n+2*n+n+1+n+4+2+1+2*n+4)
	}
}
