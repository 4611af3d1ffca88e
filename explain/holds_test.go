package explain

import (
	"slices"
	"testing"

	"pipewright/api"
)

// round is a loop that is gone round as often as one likes: 0 chan; 1 count on
// to 5; 2 if on to 4; 3 send; 4 jump to 1; 5 close; 6 close; 7 exit.
func round() api.Proc {
	return code("si ri i", 0, "chan 0 1; count 2 :5; if :4; send 0; jump :1; close 0; close 0; exit")
}

// P13.2: longer ways than the one that Why tells hold, too.
func TestLongerWays(t *testing.T) {
	p, n := round(), goneAt(6, 0)
	wantWay(t, p, n, 0, 1, 5, 6)
	wantHolds(t, p, n, true, l(0, 1, 2, 4, 1, 5, 6), l(0, 1, 2, 3, 4, 1, 5, 6), l(0, 1, 2, 3, 4, 1, 2, 4, 1, 2, 3, 4, 1, 5, 6))
	turns := slices.Concat(l(0), slices.Repeat(l(1, 2, 3, 4), 1000), l(1, 5, 6))
	wantHolds(t, p, n, true, turns)
	// One that is as short and has higher numbers.
	p = code("si ri", 0, "if :3; chan 0 1; jump :5; chan 0 1; jump :5; over 0")
	wantHolds(t, p, leftAt(5, 0), true, l(1, 2, 5), l(3, 4, 5))
	// Past At, and to it again.
	p = code("si ri", 1, "close 0; send 0; jump :0")
	wantWay(t, p, goneAt(0, 0), -1, 0, 1, 2, 0)
	wantHolds(t, p, goneAt(0, 0), true, l(-1, 0, 1, 2, 0, 1, 2, 0))
	wantHolds(t, p, goneAt(1, 0), true, l(-1, 0, 1), l(-1, 0, 1, 2, 0, 1))
	wantHolds(t, p, goneAt(0, 0), false, l(-1, 0), l(-1, 0, 1), l(-1, 0, 1, 2))
	// Past a place where another way might begin.
	p = code("si ri", 1, "let; chan 0 1; let; over 0")
	wantHolds(t, p, leftAt(3, 0), true, l(1, 2, 3), l(-1, 0, 1, 2, 3))
	wantHolds(t, p, leftAt(3, 0), false, l(0, 1, 2, 3), l(2, 3), l(3))
}

// P13.2: lists that are no way.
func TestNoWays(t *testing.T) {
	p, n := round(), goneAt(6, 0)
	for _, way := range [][]int{
		nil, {}, {0}, {6}, {-1}, {7}, {5}, // none, and of one
		{0, 6}, {0, 5, 6}, {0, 1, 6}, {0, 1, 2, 5, 6}, {0, 2, 1, 5, 6}, {0, 1, 2, 3, 1, 5, 6}, {0, 0, 1, 5, 6}, {0, 1, 1, 5, 6}, {0, 1, 5, 5, 6}, // one does not come of the one ahead
		{0, 1}, {0, 1, 5}, {0, 1, 5, 6, 7}, {0, 1, 5, 6, 6}, {0, 1, 5, 6, 0}, {6, 5, 1, 0}, // elsewhere
		{1, 5, 6}, {5, 6}, {2, 4, 1, 5, 6}, {3, 4, 1, 5, 6}, {4, 1, 5, 6}, {6, 6}, {6, 7}, // what does not bind it
		{-1, 0, 1, 5, 6}, {-1, 1, 5, 6}, {-1, 6}, {-1, -1, 6}, {-2, 0, 1, 5, 6}, // no parameter
		{0, 1, -1, 0, 1, 5, 6}, {0, -1, 1, 5, 6}, {0, 1, 8, 6}, {8, 6}, {8, 0, 1, 5, 6}, {0, 1, 5, 6, 8}, {0, 1, 5, 6, -1}, // numbers of none
	} {
		wantHolds(t, p, n, false, way)
	}
	for _, some := range append(l(-1, 8), wild...) {
		way := l(0, 1, 5, 6)
		for k := range way {
			other := slices.Clone(way)
			other[k] = some
			wantHolds(t, p, n, false, other, slices.Insert(slices.Clone(way), k, some))
		}
		wantHolds(t, p, n, false, append(way, some), l(some), l(some, some))
	}
	// What shows nothing.
	wantHolds(t, p, goneAt(3, 0), false, l(0, 1, 2, 3))
	wantHolds(t, p, goneAt(5, 0), false, l(0, 1, 5))
	wantHolds(t, p, keptAt(6, 0), false, l(0, 1, 5, 6))
	wantHolds(t, p, leftAt(6, 0), false, l(0, 1, 5, 6))
	// Another one's.
	wantHolds(t, p, goneAt(6, 1), false, l(0, 1, 5, 6))
	wantHolds(t, p, goneAt(5, 0), false, l(0, 1, 5, 6))
	wantHolds(t, p, goneAt(7, 0), false, l(0, 1, 5, 6))
}

// P13.2: a list of one is no way, even where the one binds, and is At, and the
// end would be there or not.
func TestListsOfOne(t *testing.T) {
	for _, line := range []string{"chan 0 0", "clone 0 0", "take 0 0 :0", "take 0 0 :1", "spawn 0 0", "over 0"} {
		for params := range 2 {
			p := code("ri rri", params, line+"; jump :0")
			for _, rule := range rules {
				n := api.Note{Rule: rule, At: 0, Var: 0}
				wantHolds(t, p, n, false, nil, l(), l(0), l(-1), l(1))
			}
		}
	}
}

// P13.2: all lists of some Procs, against the chapter's words; the first of
// them that holds, as they come, is what Why tells.
func TestAllLists(t *testing.T) {
	shows := 0
	for _, said := range []string{
		"chan 0 1; if :0; over 0", "take 0 1 :1; drain 0; jump :0", "take 0 0 :0; jump :0; spawn 0 0", "if :2; close 0; if :0",
		"clone 0 0; jump :0; take 0 0 :2", "take 1 0 :2; drain 0; take 0 1 :0", "over 0; take 0 1 :0; if :1", "spawn 0 0; if :0; chan 0 0",
		"if :1; take 0 0 :0; drain 0", "send 0; if :0; close 0", "give 1 0; count 0 :0; clone 0 1", "chan 1 0; count 0 :2; take 0 1 :1",
	} {
		for params := range 2 {
			p := code("ri rri", params, said)
			for _, rule := range rules {
				for at := range p.Ins {
					shows += againstAllLists(t, p, api.Note{Rule: rule, At: at}, 7)
				}
			}
		}
	}
	if shows < 25 {
		t.Errorf("%d notes are shown: too few", shows)
	}
}

// againstAllLists of at most so many numbers; 1: one of them holds.
func againstAllLists(t *testing.T, p api.Proc, n api.Note, most int) int {
	t.Helper()
	var best []int
	eachList(-2, len(p.Ins)+1, most/2, func(list []int) { wantHolds(t, p, n, slowHolds(p, n, list), list) })
	eachList(-1, len(p.Ins), most, func(list []int) {
		want := slowHolds(p, n, list)
		wantHolds(t, p, n, want, list)
		if want && best == nil {
			best = slices.Clone(list)
		}
	})
	if best == nil {
		wantNone(t, p, n)
		return 0
	}
	wantWay(t, p, n, best...)
	return 1
}
