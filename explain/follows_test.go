package explain

import (
	"fmt"
	"slices"
	"strings"
	"testing"

	"pipewright/api"
	"pipewright/own"
	"pipewright/paths"
)

// The chapter's example, whole, and the document's.
func TestExample(t *testing.T) {
	p := lowered(t, "chan s r int 1; close s; close s; drain r; drain in;")
	n := goneAt(2, 1)
	if notes := own.Notes(p); !slices.Equal(notes, []api.Note{n}) || p.Ins[2].Op != api.InClose {
		t.Fatalf("Notes(%s): %v", said(p), notes)
	}
	wantWay(t, p, n, 0, 1, 2)
	wantWay(t, p, maybeAt(2, 1), 0, 1, 2)
	eachList(-1, len(p.Ins), 5, func(list []int) { wantHolds(t, p, n, slices.Equal(list, l(0, 1, 2)), list) })
	wantNone(t, p, goneAt(1, 1))
	wantNone(t, p, leftAt(2, 1))
	// Chapter 8's.
	p = lowered(t, "chan s r int 1; if 1 { close s; } close s;")
	wantNotes(t, p, "maybe 4 of s: 0 1 2 3 4", "left 6 of r: 0 1 4 5 6", "left 7 of in: -1 0 1 4 5 6 7")
}

var ruleWords = []string{"", "gone", "maybe", "kept", "left"}

// told is a note with its way: "gone 2 of s: 0 1 2".
func told(p api.Proc, n api.Note, way []int) string {
	return fmt.Sprintf("%s %d of %s: %s", ruleWords[n.Rule], n.At, p.Vars[n.Var].Name, strings.Trim(fmt.Sprint(way), "[]"))
}

// wantNotes: all notes that own.Notes tells, each with its way.
func wantNotes(t *testing.T, p api.Proc, want ...string) {
	t.Helper()
	var got []string
	for _, n := range own.Notes(p) {
		way, f := Why(p, n)
		if f.Code != 0 || !Holds(p, n, way) {
			t.Errorf("Why(%s, %v): %v %v", said(p), n, way, f)
		}
		got = append(got, told(p, n, way))
	}
	if !slices.Equal(got, want) {
		t.Errorf("%s:\n%s, want\n%s", said(p), strings.Join(got, "\n"), strings.Join(want, "\n"))
	}
}

// 'What follows': programs with all their notes, and the way of each.
func TestPrograms(t *testing.T) {
	// 0 over in 1 exit
	wantNotes(t, lowered(t, ""), "left 0 of in: -1 0")
	wantNotes(t, lowered(t, "drain in;"))
	// 0 drain 1 take on to 3 2 jump 3 over
	wantNotes(t, lowered(t, "drain in; for x from in { }"), "gone 1 of in: -1 0 1")
	// 0 turns 1 count on to 4 2 drain 3 jump 4 over
	wantNotes(t, lowered(t, "repeat 2 { drain in; }"), "maybe 2 of in: -1 0 1 2 3 1 2", "left 4 of in: -1 0 1 4")
	// 0 take on to 3 1 drain 2 jump 3 over
	wantNotes(t, lowered(t, "for x from in { drain in; }"),
		"maybe 0 of in: -1 0 1 2 0", "maybe 1 of in: -1 0 1 2 0 1", "left 3 of in: -1 0 3")
	// 0 chan 1 spawn 2 drain 3 drain
	wantNotes(t, lowered(t, "chan s r int 1; spawn two(s, s); drain r; drain in;"), "gone 1 of s: 0 1")
	// 0 chan 1 clone 2 spawn 3 send
	wantNotes(t, lowered(t, "chan s r int 1; clone t s; spawn two(s, t); send t 1; drain r; drain in;"), "gone 3 of t: 1 2 3")
	// 0 chan s r 1 chan a b 2 give 3 give
	wantNotes(t, lowered(t, "chan s r send int 2; chan a b int 1; send s a; send s a; close s; drain r; drain b; drain in;"), "gone 3 of a: 1 2 3")
	// 0 chan 1 take on to 4 2 over x 3 jump 4 ..
	wantNotes(t, lowered(t, "chan s r send int 2; for x from r { } close s; drain r; drain in;"), "left 2 of x: 1 2")
	wantNotes(t, lowered(t, "chan s r send int 2; for x from r { close x; close x; } close s; drain r; drain in;"), "gone 3 of x: 1 2 3")
	// 0 chan 1 take on to 6; 2 if on to 4 3 close 4 over x 5 jump; 6 ..
	wantNotes(t, lowered(t, "chan s r send int 2; take x from r { if 1 { close x; } } else { } close s; drain r; drain in;"), "left 5 of x: 1 2 5")
	// 0 turns 1 count on to 7; 2 chan 3 close 4 over s 5 over r 6 jump; 7 ..
	wantNotes(t, lowered(t, "repeat 3 { chan s r int 1; close s; } drain in;"), "left 5 of r: 2 3 4 5")
	// 0 if on to 3; 1 drain 2 jump to 4; 3 abandon; 4 over
	wantNotes(t, lowered(t, "if 1 { drain in; } else { abandon in; }"))
	wantNotes(t, lowered(t, "if 1 { drain in; } else { abandon in; } abandon in;"), "gone 4 of in: -1 0 3 4")
	wantNotes(t, lowered(t, "if 1 { drain in; } else { emit 1; abandon in; } abandon in;"), "gone 5 of in: -1 0 1 2 5")
	// 0 if on to 3; 1 drain 2 jump to 5; 3 emit 4 emit; 5 drain
	wantNotes(t, lowered(t, "if 1 { drain in; } else { emit 1; emit 1; } drain in;"), "maybe 5 of in: -1 0 1 2 5")
	wantNotes(t, lowered(t, "if 1 { emit 1; } else { drain in; } drain in;"), "maybe 4 of in: -1 0 3 4")
	// An end that is sent on by way of a stage's parameter.
	two := procs(t, "stage f(a send int, b send send int) { send b a; send a 1; close b; } stage main(in recv int) { drain in; }")[0]
	wantNotes(t, two, "gone 1 of a: -1 0 1")
}

// 'What follows': each note of code that chapter 6 made has its way, which
// holds by the chapter's words, and is the one that the second way tells.
func TestEachNoteHasItsWay(t *testing.T) {
	seen := map[string]int{}
	for k, src := range scribbled(61, 3000) {
		for _, p := range procs(t, src) {
			reached := paths.Reach(p)
			for _, n := range own.Notes(p) {
				way, f := Why(p, n)
				if f.Code != 0 || !slowHolds(p, n, way) {
					t.Fatalf("%s: %v has no way: %v %v", src, n, way, f)
				}
				if k%20 == 0 {
					againstSlow(t, p, n)
				}
				if way[0] >= 0 && !slices.Contains(reached, way[0]) || !paths.Is(p, way[1:]) {
					t.Fatalf("%s: %v: %v is no way", src, n, way)
				}
				tally(seen, p, n, way)
			}
		}
	}
	for _, what := range []string{"gone", "maybe", "left", "from a parameter", "from chan", "from clone", "from take", "of two", "long", "twice there", "by one spawn"} {
		if seen[what] < 10 {
			t.Errorf("%s: %d, too few: %v", what, seen[what], seen)
		}
	}
}

// tally counts what a way is like.
func tally(seen map[string]int, p api.Proc, n api.Note, way []int) {
	seen[ruleWords[n.Rule]]++
	switch {
	case way[0] < 0:
		seen["from a parameter"]++
	default:
		seen["from "+word(p.Ins[way[0]].Op)]++
	}
	switch {
	case len(way) == 2:
		seen["of two"]++
	case len(way) > 9:
		seen["long"]++
	}
	if slices.Index(way, n.At) < len(way)-1 {
		seen["twice there"]++
	}
	if slowShows(p, n, true) && slowShows(p, n, false) {
		seen["by one spawn"]++
	}
}

// 'What follows': what Why tells Holds, of programs and all that might be asked
// of them.
func TestWhatWhyTellsHolds(t *testing.T) {
	ways := 0
	for _, src := range scribbled(62, 100) {
		for _, p := range procs(t, src) {
			eachNote(p, func(n api.Note) {
				way, f := Why(p, n)
				if Holds(p, n, way) != (f.Code == 0) {
					t.Fatalf("%s: %v: %v %v", src, n, way, f)
				}
				ways += one(f.Code == 0)
			})
		}
	}
	if ways < 500 {
		t.Errorf("%d ways are too few", ways)
	}
}
