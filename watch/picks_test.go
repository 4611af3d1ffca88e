package watch

import (
	"fmt"
	"math"
	"slices"
	"testing"

	"pipewright/api"
)

// crowd is code of so many tasks beside main, each of which emits its number
// again and again; main goes first, and is over behind so many steps.
func crowd(tasks int) (c api.Code, ahead int) {
	main := "drain 0"
	for k := range tasks {
		main += fmt.Sprintf("; spawn 0 %d", k)
	}
	return code(proc("i", 1, "emit v0;"+rep("emit v0;", 300)), proc("ri", 1, main)), tasks + 2
}

// behind are picks behind so many of 0, as which main goes on, being the first.
func behind(ahead int, picks ...int) []int { return append(make([]int, ahead), picks...) }

// emits asks for the numbers that come of picks in a crowd.
func emits(t *testing.T, tasks int, picks []int, want ...int64) {
	t.Helper()
	c, ahead := crowd(tasks)
	r := ran(t, c, nil, behind(ahead, picks...), ahead+len(want))
	if !slices.Equal(r.Out, want) || r.How != api.RunCut {
		t.Errorf("picks %v of %d tasks: %s, want %v", picks, tasks, said(r), want)
	}
}

// P18.1: of those that are ready, rising, that one goes on that the pick tells,
// less all multiples of how many are ready.
func TestPicks(t *testing.T) {
	emits(t, 3, l(0, 1, 2, 1, 0, 0, 2), 0, 1, 2, 1, 0, 0, 2)
	emits(t, 3, l(3, 4, 5, 6, 7, 300, 301, 302), 0, 1, 2, 0, 1, 0, 1, 2)
	emits(t, 1, l(0, 1, 2, -1, math.MinInt, math.MaxInt), 0, 0, 0, 0, 0, 0)
	emits(t, 2, l(0, 1, 2, 3, 4, 5), 0, 1, 0, 1, 0, 1)
}

// P18.1: a pick below 0 counts as 64 bits without a sign: -1 is 2^64 - 1, which is
// 0 of 3, 1 of 2, and 5 of 10.
func TestPicksBelow(t *testing.T) {
	emits(t, 2, l(-1, -2, -3, -4, math.MinInt, math.MinInt+1, math.MaxInt), 1, 0, 1, 0, 0, 1, 1)
	emits(t, 3, l(-1, -2, -3, -4, -5), 0, 2, 1, 0, 2)
	emits(t, 3, l(math.MinInt, math.MinInt+1, math.MinInt+2, math.MaxInt, math.MaxInt-1), 2, 0, 1, 1, 0)
	emits(t, 4, l(-1, -2, -3, -4, math.MinInt, math.MaxInt), 3, 2, 1, 0, 0, 3)
	emits(t, 5, l(-1, -2, math.MinInt, math.MaxInt), 0, 4, 3, 2)
	emits(t, 10, l(-1, -6, -7, -16, math.MinInt, math.MaxInt), 5, 0, 9, 0, 8, 7)
}

// P18.1: the same of each pick at the edges, and of each number of tasks.
func TestPicksOfCrowds(t *testing.T) {
	for tasks := 1; tasks <= 24; tasks++ {
		var want []int64
		for _, p := range wildPicks {
			want = append(want, int64(exactly(p, tasks)))
		}
		emits(t, tasks, wildPicks, want...)
	}
}

// P18.1: 0 behind the last pick; none, fewer and more than the steps.
func TestFewPicks(t *testing.T) {
	c, ahead := crowd(3)
	most := ahead + 6
	for n, want := range []string{"0 0 0 0 0 0", "2 0 0 0 0 0", "2 1 0 0 0 0", "2 1 1 0 0 0", "2 1 1 2 0 0", "2 1 1 2 2 0", "2 1 1 2 2 1", "2 1 1 2 2 1", "2 1 1 2 2 1"} {
		picks := behind(ahead, l(2, 1, 1, 2, 2, 1, 2, 2)[:n]...)
		wants(t, c, nil, picks, most, fmt.Sprintf("cut %d: %s;", most, want))
	}
	for n := range ahead {
		wants(t, c, nil, make([]int, n), most, fmt.Sprintf("cut %d: 0 0 0 0 0 0;", most))
	}
	wants(t, c, nil, nil, most, fmt.Sprintf("cut %d: 0 0 0 0 0 0;", most))
	wants(t, c, nil, []int{}, most, fmt.Sprintf("cut %d: 0 0 0 0 0 0;", most))
}

// P18.1: the number of a step counts the steps of all tasks, from 0 on, those, too,
// where one task alone is ready.
func TestPicksByStep(t *testing.T) {
	c := code(proc("i", 1, "emit v0; emit v0,10,+; emit v0,20,+"), proc("ri", 1, "drain 0; spawn 0 1; spawn 0 2; emit 9"))
	wants(t, c, nil, l(5, 5, 0, 0, 0, 1, 0, 1, 0, 1, 0, 1, 0), 100, "over 13: 9 2 1 12 11 22 21;")
	wants(t, c, nil, l(5, 5, 1, 1, 1, 1, 1, 1), 100, "over 13: 1 11 21 2 9 12 22;")
	wants(t, c, nil, l(0, 0, 0, 2, 2, 2, 2, 1, 1, 1, 1), 100, "over 13: 2 12 22 1 11 21 9;")
}

// P18.1: those that wait, and those that are over, are not counted.
func TestPicksOfTheReady(t *testing.T) {
	waits := proc("ri i i", 2, "take 2 0 :0; emit v2,v1,+; abandon 0; over 0")
	tells := proc("i", 1, "emit v0;"+rep("emit v0;", 9))
	ends := proc("i", 1, "")
	// The tasks 1, 3 and 5 wait; 2, 4 and 7 tell; 6 is over soon. Main is over.
	main := "drain 0; chan 1 2; spawn 0 #2 100; spawn 1 2; chan 3 4; spawn 0 #4 300; spawn 1 4; chan 5 6; spawn 0 #6 500; spawn 2 6; spawn 1 7; close 5"
	c := code(waits, tells, ends, proc("ri si ri si ri si ri", 1, main))
	ahead := 13
	leaks := fmt.Sprintf("leak:0@%d:2 leak:0@%d:4", place(12), place(12))
	// 2, 4, 5 (which nobody sends to any more), 6 and 7 are ready.
	emitsThen := func(want string, picks ...int) {
		t.Helper()
		most := ahead + len(picks)
		wants(t, c, nil, behind(ahead, picks...), most, fmt.Sprintf("cut %d: %s; %s", most, want, leaks))
	}
	emitsThen("2 4 7 7", 0, 1, 4, -2)   // 2^64 - 2 is 4 of 5
	emitsThen("2 4 7 7", 3, 0, 1, 3, 3) // 6 is over behind the first one
	emitsThen("2 2 7", 5, -1, -2)       // 2^64 - 1 is 0 of 5
}

// P18.1: a task that is spawned, or that needs not wait any more, is there from
// the next step on.
func TestPicksOfNewTasks(t *testing.T) {
	tells := proc("i", 1, "emit v0; emit v0")
	c := code(tells, proc("ri", 1, "drain 0; emit 9; spawn 0 1; spawn 0 2; emit 8; emit 7"))
	wants(t, c, nil, l(1, 1, 1, 1, 1, 0, 1), 7, "cut 7: 9 1 1;")
	wants(t, c, nil, l(1, 1, 1, 2, 1, 2, 3), 7, "cut 7: 9 1 2 8;")
	wants(t, c, nil, l(-1, -1, -1, -2, -3, -1, -1), 7, "cut 7: 9 1 8 7;")
	gets := proc("ri i", 1, "take 1 0 :0; emit v1; drain 0; over 0")
	c = code(gets, proc("ri si ri", 1, "drain 0; chan 1 2; spawn 0 #2; emit 1; send 1 5; emit 2; close 1"))
	wants(t, c, nil, l(1, 1, 1, 1, 1, 1, 1), 7, "cut 7: 1 5;")
	wants(t, c, nil, l(1, 1, 1, 1, 1, 1, 1, 1, 1), 9, "cut 9: 1 5 2;")
}

// P18.1: of runs as they are drawn: picks that come to the same one, by how many
// are ready, tell the same.
func TestPicksThatMeanTheSame(t *testing.T) {
	w := newWriter(7)
	choices := 0
	for range 2000 {
		c, in, picks := w.code(4+w.Intn(24)), w.inputs(), w.picks(w.Intn(80))
		want := ran(t, c, in, picks, 80)
		_, ready := turnsOf(t, c, in, picks, 80)
		for range 3 {
			var others []int
			for n, many := range ready {
				p := 0
				if n < len(picks) {
					p = exactly(picks[n], many)
				}
				others = append(others, likePick(w, p, many))
				if many > 1 {
					choices++
				}
			}
			if got := ran(t, c, in, others, 80); !sameReport(got, want) {
				t.Fatalf("picks %v and %v: %s, and %s", picks, others, said(want), said(got))
			}
		}
	}
	if choices < 20000 {
		t.Errorf("%d choices are too few", choices)
	}
}

// likePick is another pick that comes to the same one of so many.
func likePick(w *writer, p, many int) int {
	for {
		if n := int(w.Uint64()); exactly(n, many) == p {
			return n
		}
	}
}
