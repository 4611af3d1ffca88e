package explain

import (
	"slices"
	"strings"
	"testing"

	"pipewright/api"
)

// letters of the rules, each at its number.
const letters = " gmkl"

// wantShown: of a line's instruction those rules are shown, by their letters,
// where the end of 0 is there ahead of it, and where it is gone.
func wantShown(t *testing.T, line, there, gone string) {
	t.Helper()
	for _, rule := range rules {
		p := code("ri rri si", 1, line+"; exit")
		n := api.Note{Rule: rule, At: 0}
		if strings.Contains(there, letters[rule:rule+1]) {
			wantWay(t, p, n, -1, 0)
		} else {
			nowhere(t, p, n)
		}
		p = code("ri rri si", 1, "over 0; "+line+"; exit")
		n.At = 1
		if strings.Contains(gone, letters[rule:rule+1]) {
			wantWay(t, p, n, -1, 0, 1)
		} else {
			nowhere(t, p, n)
		}
	}
}

// P13: each act at a way's last instruction, with an end and without one.
func TestRules(t *testing.T) {
	for _, line := range []string{"clone 1 0", "send 0", "send 0 1", "give 0 1", "give 0 9", "take 1 0 :99", "take 9 0 :99", "clone -1 0"} {
		wantShown(t, line, "", "gm")
	}
	for _, line := range []string{"close 0", "abandon 0", "drain 0", "close 0 1", "give 1 0", "give 9 0", "spawn 0", "spawn 1 0 2", "spawn e0 0", "spawn 0 e0", "spawn 9 0 e1"} {
		wantShown(t, line, "", "gm")
	}
	for _, line := range []string{"chan 0 1", "chan 1 0", "chan 0 9", "chan -1 0", "clone 0 1", "clone 0 9", "take 0 1 :99", "take 0 9 :99"} {
		wantShown(t, line, "k", "")
	}
	wantShown(t, "over 0", "l", "")
	wantShown(t, "over 0 1", "l", "")
}

// P13: an InTake's bind counts at a way's last instruction, wherever that would
// go on to.
func TestRulesOfTake(t *testing.T) {
	for _, to := range []string{"0", "1", "2", "-1", "99"} {
		p := code("ri rri", 1, "take 0 1 :"+to+"; exit; exit")
		wantWay(t, p, keptAt(0, 0), -1, 0)
		p = code("ri rri", 1, "exit; take 0 1 :"+to)
		p.Ins[0] = api.Ins{Op: api.InEmit}
		wantWay(t, p, keptAt(1, 0), -1, 0, 1)
	}
}

// P13: several acts on one variable at one instruction: what is dropped is not
// there any more, and bind does not count in between.
func TestRulesOfSeveralActs(t *testing.T) {
	wantShown(t, "chan 0 0", "k", "")
	wantShown(t, "clone 0 0", "k", "gm")
	wantShown(t, "take 0 0 :99", "k", "gm")
	wantShown(t, "give 0 0", "", "gm")
	wantShown(t, "spawn 0 0", "gm", "gm")
	wantShown(t, "spawn 0 0 0", "gm", "gm")
	wantShown(t, "spawn 0 1 0", "gm", "gm")
	wantShown(t, "spawn 0 e0 9 0", "gm", "gm")
	wantShown(t, "spawn 0 e0 e0", "", "gm")
	wantShown(t, "spawn e0 1 1", "", "")
	wantShown(t, "spawn 1 0 1", "", "gm")
	// The same, and a way that has bound it at just such a one.
	p := code("si ri", 0, "chan 0 0; chan 0 0; exit")
	nowhere(t, p, keptAt(0, 0))
	wantWay(t, p, keptAt(1, 0), 0, 1)
	p = code("si ri", 0, "chan 0 1; spawn 0 0; exit")
	wantWay(t, p, goneAt(1, 0), 0, 1)
	wantWay(t, p, maybeAt(1, 0), 0, 1)
}

// P13: what does nothing to the variable shows nothing.
func TestNoActsShowNothing(t *testing.T) {
	for _, line := range []string{
		"let 0", "emit 0", "turns 0", "count 0 :99", "if 0 :99", "jump 0 :99", "exit 0", "none 0", "chan 1 2", "chan 9 -1", "clone 1 2", "send 1", "give 1 2",
		"close 1", "abandon 1", "drain 2", "spawn", "spawn e0", "spawn e0 e0 1", "take 1 1 :99", "over 1", "over 9",
	} {
		wantShown(t, line, "", "")
	}
	for _, op := range append(slices.Clone(wild), 0, 18) {
		for _, rule := range rules {
			p := code("si", 1, "let; exit")
			p.Ins[0] = api.Ins{Op: op, Args: []api.Arg{{V: 0}}}
			nowhere(t, p, api.Note{Rule: rule, At: 0})
		}
	}
}

// P13: RuleGone and RuleMaybe are shown alike, whichever of them own.Notes
// tells.
func TestGoneAndMaybe(t *testing.T) {
	for _, said := range []string{"close 0; close 0", "if :2; close 0; send 0", "spawn 0 0", "if :2; over 0; clone 1 0; jump :0"} {
		p := code("si si", 1, said)
		for at := range p.Ins {
			gone, f := Why(p, goneAt(at, 0))
			maybe, g := Why(p, maybeAt(at, 0))
			if f != g || !slices.Equal(gone, maybe) {
				t.Errorf("%s: %v %v and %v %v", said, gone, f, maybe, g)
			}
			eachList(-1, len(p.Ins), 5, func(list []int) {
				wantHolds(t, p, maybeAt(at, 0), Holds(p, goneAt(at, 0), list), list)
			})
		}
	}
}
