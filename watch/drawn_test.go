package watch

import (
	"fmt"
	"math"
	"math/rand"
	"strings"
	"testing"

	"pipewright/api"
	"pipewright/lower"
)

// wantSeen asks that each of these came often enough.
func wantSeen(t *testing.T, seen map[string]int, least int, what string) {
	t.Helper()
	var few []string
	for name := range strings.SplitSeq(what, ", ") {
		if seen[name] < least {
			few = append(few, fmt.Sprint(name, ": ", seen[name]))
		}
	}
	if len(few) > 0 {
		t.Errorf("too few: %v; all: %v", few, seen)
	}
}

// against holds a run against the plain reckoning, and tells what came of it.
func against(t *testing.T, c api.Code, in []int64, picks []int, most int, seen map[string]int) {
	t.Helper()
	p := newPlain(c, in)
	want := p.run(picks, most)
	if got := ran(t, c, in, picks, most); !sameReport(got, want) {
		t.Fatalf("picks %s, most %d:\n%s, want\n%s", short(picks), most, short(said(got)), short(said(want)))
	}
	how := howWords[want.How]
	seen[how]++
	for _, e := range want.Events {
		seen[how+" with "+eventWords[e.Kind]]++
	}
	if len(want.Events) == 0 {
		seen[how+" without events"]++
	}
	if len(want.Out) > 1 {
		seen[how+" with numbers"]++
	}
	for step, ready := range p.ready {
		switch {
		case step >= len(picks):
			seen["no pick"]++
		case ready > 1 && picks[step] < 0:
			seen["a pick below 0"]++
		case ready > 1 && picks[step] >= ready:
			seen["a great pick"]++
		case ready > 1:
			seen["a small pick"]++
		}
	}
	if want.How != api.RunCut && want.Steps == most {
		seen["just at the end"]++
	}
	if want.How != api.RunCut && want.Steps < len(picks) {
		seen["picks are left"]++
	}
}

// mosts are some numbers of steps for a run; where it goes on for long, they are
// not great.
func (w *writer) mosts(c api.Code, in []int64, picks []int) []int {
	const long = 300
	r := newPlain(c, in).run(picks, long)
	list := []int{r.Steps, max(0, r.Steps-1), r.Steps + 1, w.Intn(r.Steps + 1), w.Intn(3)}
	if r.How != api.RunCut {
		list = append(list, 1<<31, 1<<40, math.MaxInt)
	}
	return list
}

const allThatComes = "over, stuck, cut, " +
	"over with none, over with sent, over with twice, over with owner, over with moved, over with gone, over with leak, over without events, over with numbers, " +
	"stuck with none, stuck with sent, stuck with twice, stuck with owner, stuck with moved, stuck with gone, stuck with leak, stuck with stuck, stuck with numbers, " +
	"cut with none, cut with sent, cut with twice, cut with owner, cut with moved, cut with gone, cut with leak, cut without events, cut with numbers, " +
	"no pick, a pick below 0, a great pick, a small pick, just at the end, picks are left"

// P18.1: drawn code and drawn picks, fewer and more than there are steps; as many
// steps as the run has, one less, one more, and others.
func TestDrawn(t *testing.T) {
	seen := map[string]int{}
	w := newWriter(1)
	for round := range 12000 {
		c, in := w.code(4+round%4*8), w.inputs()
		if f := lower.Check(c); f.Code != 0 {
			t.Fatal(f)
		}
		picks := w.picks(w.Intn(120))
		for _, most := range w.mosts(c, in, picks) {
			against(t, c, in, picks, most, seen)
		}
	}
	wantSeen(t, seen, 20, allThatComes)
}

// P18.1: programs as they come, most of which break rules.
func TestDrawnPrograms(t *testing.T) {
	seen := map[string]int{}
	w := newWriter(2)
	for _, src := range append(scribbled(3, 3000), tidied(4, 1500)...) {
		c, in := lowered(t, src), w.inputs()
		for range 3 {
			picks := w.picks(w.Intn(200))
			for _, most := range w.mosts(c, in, picks) {
				against(t, c, in, picks, most, seen)
			}
		}
	}
	wantSeen(t, seen, 50, strings.ReplaceAll(allThatComes, "cut with twice, ", ""))
}

// P1
func FuzzRun(f *testing.F) {
	for n := range int64(20) {
		f.Add(n, uint8(n), int(n))
	}
	f.Fuzz(func(t *testing.T, seed int64, size uint8, most int) {
		w := &writer{Rand: rand.New(rand.NewSource(seed))}
		c, in, picks := w.code(1+int(size)), w.inputs(), w.picks(w.Intn(200))
		if most < 0 {
			refuses(t, "most below 0", c, in, picks, most, fault(api.ErrRange, -1))
			return
		}
		against(t, c, in, picks, min(most, 300), map[string]int{})
	})
}
