package bound

import (
	"fmt"
	"math"
	"testing"

	"pipewright/api"
)

// P12: E of the block 0 of the first task is 1, whatever comes in, and whatever
// its block says beside its Kind.
func TestFirstBlock(t *testing.T) {
	c := code(proc("ri", 1, "", ""))
	d := code(proc("ri", 1, "", ""))
	d.Procs[0].Blocks[0] = api.Block{Kind: api.BlockBody, Parent: -7, A: math.MinInt64, N: api.MaxTurns}
	for _, inputs := range manyInputs {
		wantPasses(t, c, 0, inputs, 1)
		wantPasses(t, d, 0, inputs, 1)
	}
	e := code(proc("ri", 1, "", ""), proc("", 0, "", ""))
	e.Main = 0
	wantPasses(t, e, 0, 3, 1)
	wantPasses(t, e, 1, 3, 0) // a stage without a task
}

// spread is main with blocks of all kinds, that go through 1, 5, 15, 15, 1, 4, 0
// and 20 times, if 5 come in.
func spread(said string) api.Proc {
	return proc("ri", 1, "for 0 0; repeat 1 3; then 2; else 0; repeat 4 4; repeat 1 0; repeat 5 5", said)
}

// P12: E of the block 0 of another task is that of the block, in its Parent, that
// its At stands in.
func TestFirstBlocksOfOthers(t *testing.T) {
	want := []int{1, 5, 15, 15, 1, 4, 0, 20}
	wantPasses(t, code(spread("")), 0, 5, want...)
	below := proc("", 0, "repeat 0 2; else 1", "")
	for at, n := range want {
		c := code(below, spread(fmt.Sprintf("emit @3; spawn 0 @%d; emit @3", at)))
		wantPasses(t, c, 0, 5, n, 2*n, 2*n)
		wantPasses(t, c, 1, 5, want...)
		for other, m := range want {
			c := code(below, spread(fmt.Sprintf("spawn 0 @%d; emit @2; spawn 0 @%d", at, other)))
			wantPasses(t, c, 0, 5, n+m, 2*(n+m), 2*(n+m))
			// The Parent's Loop is no matter.
			c = code(below, spread(fmt.Sprintf("spawn 0 @%d %%%d", at, other)))
			wantPasses(t, c, 0, 5, n, 2*n, 2*n)
		}
	}
}

// P12: tasks of tasks, of each the block that it is spawned in.
func TestTasksOfTasks(t *testing.T) {
	c := code(
		proc("", 0, "repeat 0 5; then 1", ""),
		proc("", 0, "repeat 0 3; repeat 1 2", "spawn 0 @2; spawn 0 @1; emit @2"),
		proc("ri", 1, "for 0 0; repeat 0 4", "spawn 1 @1; spawn 1 @2; spawn 0"))
	wantPasses(t, c, 2, 7, 1, 7, 4)
	wantPasses(t, c, 1, 7, 11, 33, 66)
	wantPasses(t, c, 0, 7, 100, 500, 500)
	wantPasses(t, c, 0, 0, 37, 185, 185)
	deep := api.Code{Main: 9}
	for k := range 9 {
		said := ""
		if k > 0 {
			said = fmt.Sprintf("spawn %d @1", k-1)
		}
		deep.Procs = append(deep.Procs, proc("", 0, "repeat 0 3", said))
	}
	deep.Procs = append(deep.Procs, proc("ri", 1, "for 0 0", "spawn 8 @1"))
	n := 11
	for k := 8; k >= 0; k-- {
		wantPasses(t, deep, k, 11, n, 3*n)
		n *= 3
	}
}

// P12: E of a BlockFor: of no channel, of one, of several; its Parent is no
// matter.
func TestFor(t *testing.T) {
	for _, c := range []struct {
		said string
		want int
	}{
		{"", 0},                                       // 2 may be of no channel
		{"chan 1 2", 0},                               // of one that nothing goes through
		{"chan 1 2; send 1", 1},                       // of one
		{"chan 1 2; send 1; send 1; send 1", 3},       //
		{"chan 1 2; chan 1 2; send 1", 2},             // of two
		{"chan 1 2; chan 1 2; chan 1 2; send 1", 3},   // of three
		{"chan 1 2; chan 3 2; send 1", 1},             // of two, one of which nothing goes through
		{"chan 1 2; chan 3 2; send 1; send 3", 2},     //
		{"chan 1 2; chan 3 4; send 1; send 3", 1},     // the other one is not its own
		{"chan 1 2; chan 3 4; send 3; send 3", 0},     //
		{"chan 5 6; give 5 0; take 2 6", 9},           // what comes in
		{"chan 5 6; give 5 0; take 2 6; chan 1 2", 9}, //
		{"chan 5 6; give 5 0; take 2 6; chan 3 2; send 3", 10},
		{"chan 5 6; give 5 0; give 5 4; take 2 6; chan 3 4; send 3; send 3", 11},
	} {
		main := proc("ri si ri si ri sri rri", 1, "for 0 2; repeat 0 0; repeat 0 6; then 1; for 1 2; for 2 2; for 3 2; for 4 2; for 5 2", c.said)
		n := c.want
		wantPasses(t, code(main), 0, 9, 1, n, 0, 6, n, n, n, n, n, n)
	}
	wantPasses(t, code(proc("ri", 1, "for 0 0; for 1 0; repeat 2 2; for 3 0", "")), 0, 6, 1, 6, 6, 12, 6)
}

// P12: of a BlockFor of another task its own A is asked, not that of another
// one.
func TestForOfTasks(t *testing.T) {
	below := proc("ri", 1, "for 0 0", "")
	main := proc("ri si ri si ri", 1, "", "chan 1 2; chan 3 4; send 1; send 1; send 3; spawn 0 2; spawn 0 4; spawn 0 0")
	wantPasses(t, code(below, main), 0, 100, 3, 103)
	main = proc("ri si ri", 1, "repeat 0 2", "chan 1 2; chan 1 2; send 1; spawn 0 2 @1")
	wantPasses(t, code(below, main), 0, 100, 2, 2)
	main = proc("ri si ri", 1, "repeat 0 0", "chan 1 2; chan 1 2; send 1; spawn 0 2 @1")
	wantPasses(t, code(below, main), 0, 100, 0, 2)
}

// P12: E of BlockThen and BlockElse is their Parent's; their A and N are no
// matter.
func TestThenAndElse(t *testing.T) {
	for _, kind := range []string{"then", "else"} {
		main := proc("ri", 1, rep(kind+" 0;", 2)+"for 1 0;"+kind+" 3; repeat 2 5;"+kind+" 5;"+kind+" 6; "+kind+" 0; repeat 0 0; "+kind+" 9", "")
		wantPasses(t, code(main), 0, 8, 1, 1, 1, 8, 8, 5, 5, 5, 1, 0, 0)
		for number := range main.Blocks {
			if b := &main.Blocks[number]; b.Kind == api.BlockThen || b.Kind == api.BlockElse {
				b.A, b.N = -number, number%7
			}
		}
		wantPasses(t, code(main), 0, 8, 1, 1, 1, 8, 8, 5, 5, 5, 1, 0, 0)
	}
}

// P12: E of a BlockRepeat is its Parent's, N times, N 0 among them; its A is no
// matter.
func TestRepeat(t *testing.T) {
	for n := range api.MaxTurns + 1 {
		for m := range api.MaxTurns + 1 {
			c := code(proc("ri", 1, fmt.Sprintf("repeat 0 %d; repeat 1 %d; repeat 1 2; for 2 0; repeat 4 %d; then 2; repeat 6 %d", n, m, n, m), ""))
			wantPasses(t, c, 0, 10, 1, n, n*m, n*2, 10, 10*n, n*m, n*m*m)
			c.Procs[0].Blocks[1].A, c.Procs[0].Blocks[2].A = -5, math.MaxInt64
			wantPasses(t, c, 0, 10, 1, n, n*m, n*2, 10, 10*n, n*m, n*m*m)
		}
	}
}

// P12: blocks of all kinds within one another, as programs have them.
func TestBlocksWithinBlocks(t *testing.T) {
	c := mainOf(t, `
		for x from in {
			repeat 2 {
				if x { emit 1; } else { repeat x { emit 2; } }
				take y from in { repeat 3 { emit y; } } else { emit 3; }
			}
		}
		repeat 0 { repeat 5 { emit 4; } }
		repeat 7 { for z from in { emit z; } }
		repeat 3 - 1 { emit 5; }
		drain in;`)
	wantPasses(t, c, 0, 4, 1, 4, 8, 8, 8, 48, 8, 24, 8, 0, 0, 6, 4, 6)
	wantPasses(t, c, 0, 0, 1, 0, 0, 0, 0, 0, 0, 0, 0, 0, 0, 6, 0, 6)
	kinds := []string{"for 0 0", "then", "else", "repeat"}
	for way := range 4 * 4 * 4 * 4 {
		blocks, want, rest := "", []int{1}, way
		for k := range 4 {
			n := want[k]
			switch kind := kinds[rest%4]; kind {
			case "for 0 0":
				blocks, n = blocks+fmt.Sprintf("for %d 0;", k), 5
			case "repeat":
				blocks, n = blocks+fmt.Sprintf("repeat %d %d;", k, k+2), n*(k+2)
			default:
				blocks += fmt.Sprintf("%s %d;", kind, k)
			}
			want, rest = append(want, n), rest/4
		}
		wantPasses(t, code(proc("ri", 1, blocks, "")), 0, 5, want...)
	}
}
