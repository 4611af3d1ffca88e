package desk

import (
	"fmt"
	"strings"
	"testing"
)

// wantSeen asks that each of these came often enough.
func wantSeen(t *testing.T, seen map[string]int, least int, what string) {
	t.Helper()
	var few []string
	for name := range strings.SplitSeq(what, ", ") {
		if seen[name] < least {
			few = append(few, fmt.Sprint(name, ": ", seen[name]))
		}
	}
	if len(few) > 0 {
		t.Errorf("too few: %v; all: %v", few, seen)
	}
}

// alike holds a desk against a plain reckoning: line by line, so that the first
// one that is told in another way is named.
func alike(t *testing.T, d *Desk, p *plain, lines []string) {
	t.Helper()
	for n, line := range lines {
		want, _ := p.do([]string{line})
		if told := does(t, d, line); told != want {
			t.Fatalf("%s\ntells\n%s, want\n%s", strings.Join(lines[:n+1], "\n"), told, want)
		}
	}
}

// P20.1: drawn lines held against a plain reckoning.
func TestDrawn(t *testing.T) {
	seen := map[string]int{}
	for seed := range int64(60) {
		c := newClerk(seed)
		for range 5 {
			p := newPlain()
			p.seen = seen
			alike(t, New(), p, c.lines(200))
		}
	}
	wantSeen(t, seen, 20, "|, no words, no number, a fault of none, a fault of a statement, a fault of a stage, "+
		"other words, new tells nothing, check yes, check no, "+
		"judge fine, judge gone, judge maybe, judge left, judge round, judge no, judge what, note gone, note maybe, note left, round, "+
		"why way, why no, why what, bound bound, bound no, bound what, print stage, print what, begin begun, begin what, "+
		"step steps, step stays, step what, run ran, run what, run to where none is ready, run all that was asked for, "+
		"tasks task, tasks what, chans chan, chans what, events event, events tells nothing, events what, out out, out what, "+
		"task read, task wait, task over, chan there, chan gone, event none, event sent, event twice, event owner, event moved, event gone, event leak")
	wantSeen(t, seen, 5, "new what, check what, check text, check name, check number, check form, check short, check many, check twice, check none, check type, check stage, check count, check main, check size")
}
