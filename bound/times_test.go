package bound

import (
	"fmt"
	"slices"
	"testing"

	"pipewright/api"
	"pipewright/tree"
)

// cells are how many E's and N's there are.
func cells(t *testing.T, c api.Code) int {
	t.Helper()
	g, f := tree.Grow(c)
	if f.Code != 0 {
		t.Fatal(said(c), f)
	}
	return len(newSlowBook(c, g, 0).cells)
}

// wantTold asks that the answer would be another one, if all were made anew so
// many times in the first and in the second going over.
func wantTold(t *testing.T, what string, c api.Code, inputs, first, second int) {
	t.Helper()
	other := slowAnswersBy(c, inputs, func(b *slowBook) {
		b.goOver(first)
		b.goOver(second)
	})
	if a := answers(c, inputs); alike(a, other) {
		t.Errorf("%s: %d and %d times are not told: %s", what, first, second, shown(a))
	}
}

// wantTimes asks for an answer, and that it hangs on how often all are made
// anew: as what comes in and what the first task does hang on nothing, one time
// less than the chapter says is never told, but two times less is.
func wantTimes(t *testing.T, what string, c api.Code, inputs int, want answer) {
	t.Helper()
	if a := wantSecond(t, c, inputs); !alike(a, want) {
		t.Errorf("%s: %s, want %s", what, shown(a), shown(want))
	}
	n := cells(t, c)
	for less := 2; less <= min(n, 6); less++ {
		wantTold(t, what, c, inputs, n+1-less, n+1)
		wantTold(t, what, c, inputs, n+1-less, n+1-less)
	}
}

// P12: how often all are made anew, by blocks within blocks: all but the channel
// 0 hang on one another in a row.
func TestTimesOfBlocks(t *testing.T) {
	for deep := 1; deep <= 40; deep++ {
		blocks := ""
		for k := range deep {
			blocks += fmt.Sprintf("then %d;", k)
		}
		c := code(proc("ri", 1, blocks, fmt.Sprintf("emit @%d", deep)))
		wantTimes(t, fmt.Sprint(deep, " blocks"), c, 8, answer{steps: 2, things: []int{8}})
	}
}

// P12: the same, by channel after channel: all but the first block.
func TestTimesOfChannels(t *testing.T) {
	for channels := 1; channels <= 29; channels++ {
		types, blocks, said := "ri", "for 0 0;", ""
		for k := range channels {
			types += " si ri"
			if k+1 < channels {
				blocks += fmt.Sprintf("for 0 %d;", 2+2*k)
			}
			said += fmt.Sprintf("chan %d %d; send %d @%d;", 1+2*k, 2+2*k, 1+2*k, k+1)
		}
		c := code(proc(types, 1, blocks, said))
		// The chans and the exit; and 8 by each send.
		wantTimes(t, fmt.Sprint(channels, " channels"), c, 8, answer{steps: channels + 1 + 8*channels, things: manyTimes(channels+1, 8)})
	}
}

// P12: the same, by task after task: all but the channel 0.
func TestTimesOfTasks(t *testing.T) {
	for stages := 2; stages <= 10; stages++ {
		for deep := range 4 {
			var c api.Code
			for stage := range stages {
				types, params, blocks, said := "", 0, "", fmt.Sprintf("emit @%d;", deep)
				for k := range deep {
					blocks += fmt.Sprintf("repeat %d 1;", k)
				}
				if stage > 0 {
					said += fmt.Sprintf("spawn %d @%d;", stage-1, deep)
				}
				if stage == stages-1 {
					types, params = "ri", 1
				}
				c.Procs = append(c.Procs, proc(types, params, blocks, said))
			}
			c.Main = stages - 1
			wantTimes(t, fmt.Sprint(stages, " tasks of ", deep, " blocks"), c, 8, answer{steps: 3*stages - 1, things: []int{8}})
		}
	}
}

// P12: what is Cap after the first going over, and what only after the second:
// in a round of which one number is gone on with, all but one become Cap only
// then.
func TestFirstAndSecond(t *testing.T) {
	for channels := 2; channels <= 29; channels++ {
		c := code(ring(channels, "send 1"))
		g, _ := tree.Grow(c)
		b := newSlowBook(c, g, 0)
		n := len(b.cells)
		if n != 2*channels+2 {
			t.Fatal(n, "cells")
		}
		b.goOver(n + 1)
		// From the first block on it takes n steps to the first for, once round.
		if first := slices.Index(b.capped, true); first != b.block(0, 1) || slices.Contains(b.capped[first+1:], true) {
			t.Errorf("%d channels: behind the first going over %v are Cap", channels, b.capped)
		}
		want := answer{steps: api.Cap, things: append([]int{0}, manyTimes(channels, api.Cap)...)}
		if a := wantSecond(t, c, 0); !alike(a, want) {
			t.Errorf("%d channels: %s, want %s", channels, shown(a), shown(want))
		}
		// From that one on it takes as many steps as there are others.
		wantTold(t, "one going over alone", c, 0, n+1, 0)
		for second := 1; second < 2*channels-1; second++ {
			wantTold(t, "a short second one", c, 0, n+1, second)
		}
	}
}

// P12: what hangs on a round becomes Cap, each at its time: a row behind a round
// of one channel is Cap at each other place behind the first going over, and at
// all behind the second.
func TestSecondBehindARound(t *testing.T) {
	for channels := 3; channels <= 29; channels++ {
		types, blocks, said := "ri si ri", "for 0 2;", "chan 1 2; send 1; send 1 @1;"
		for k := 1; k < channels; k++ {
			types += " si ri"
			blocks += fmt.Sprintf("for 0 %d;", 2*k)
			said += fmt.Sprintf("chan %d %d; send %d @%d;", 1+2*k, 2+2*k, 1+2*k, k+1)
		}
		c := code(proc(types, 1, blocks, said))
		g, _ := tree.Grow(c)
		b := newSlowBook(c, g, 0)
		b.goOver(len(b.cells) + 1)
		behind := 0
		for _, is := range b.capped {
			if is {
				behind++
			}
		}
		if behind == 0 || behind > channels+1 {
			t.Errorf("%d channels: %d are Cap behind the first going over", channels, behind)
		}
		wantTold(t, "one going over alone", c, 0, len(b.cells)+1, 0)
		wantThings(t, c, 0, append([]int{0}, manyTimes(channels, api.Cap)...)...)
		wantSecond(t, c, 0)
	}
}

// P12: however often beyond what the chapter says all are made anew, or one time
// less, and wherever the second going over begins, it comes to the same.
func TestMoreTimesTellTheSame(t *testing.T) {
	all := append(someCodes(74, 1500, 14, 6), someCodes(75, 800, 40, 12)...)
	all = append(all, code(ring(1, "send 1")), code(ring(2, "send 1")), code(ring(7, "send 3")), code(ring(29, "send 5")))
	for k, c := range all {
		inputs := manyInputs[k%len(manyInputs)]
		want := slowAnswers(c, inputs)
		for more := range 16 {
			for _, fromNought := range []bool{false, true} {
				got := slowAnswersBy(c, inputs, func(b *slowBook) {
					b.goOver(len(b.cells) + more%4)
					if fromNought {
						clear(b.now)
					}
					b.goOver(len(b.cells) + more/4)
				})
				if !alike(got, want) {
					t.Fatalf("of %s with %d: %v, want %v", said(c), inputs, got, want)
				}
			}
		}
	}
}
