package watch

import (
	"math"
	"slices"
	"testing"

	"pipewright/api"
	"pipewright/bound"
	"pipewright/order"
)

// fineOne is a program that is fine, and what it is known by.
type fineOne struct {
	src    string
	c      api.Code
	clones bool
}

// fineOnes are those that are fine of some programs.
func fineOnes(t *testing.T, programs []string) []fineOne {
	t.Helper()
	var all []fineOne
	for _, src := range programs {
		c := lowered(t, src)
		v, f := order.Judge(c)
		if f.Code != 0 || !order.Fine(v) {
			continue
		}
		all = append(all, fineOne{src, c, clones(c)})
	}
	return all
}

func clones(c api.Code) bool {
	return slices.ContainsFunc(c.Procs, func(p api.Proc) bool {
		return slices.ContainsFunc(p.Ins, func(ins api.Ins) bool { return ins.Op == api.InClone })
	})
}

// manyFine are programs of three kinds that are fine.
func manyFine(t *testing.T, seed int64, n int) []fineOne {
	t.Helper()
	return fineOnes(t, slices.Concat(tidied(seed, n), woven(seed+1, n), scribbled(seed+2, n)))
}

// someIn are numbers of all sizes, mostly small ones, so that all goes quick.
func (w *writer) someIn() []int64 {
	var in []int64
	for range w.Intn(5) {
		in = append(in, w.number())
	}
	return in
}

// manyPicks are none, always the last task, always the same one, and some that
// are drawn.
func (w *writer) manyPicks() [][]int {
	return [][]int{nil, slices.Repeat([]int{math.MaxInt}, 3000), slices.Repeat([]int{w.Intn(9)}, 3000), w.picks(3000), w.picks(w.Intn(100))}
}

// What follows: fine is safe: no run has an event, whatever the picks, and
// whatever comes in, wherever it is cut.
func TestFineIsSafe(t *testing.T) {
	w := newWriter(11)
	seen := map[string]int{}
	for _, x := range manyFine(t, 100, 1500) {
		for _, picks := range w.manyPicks() {
			in := w.someIn()
			r := ran(t, x.c, in, picks, w.Intn(400))
			if len(r.Events) > 0 || r.How == api.RunStuck {
				t.Fatalf("%s with %v, picks %s: %s", x.src, in, short(picks), said(r))
			}
			seen[howWords[r.How]]++
			if len(r.Out) > 2 {
				seen["numbers"]++
			}
			if x.clones {
				seen["clones"]++
			}
		}
	}
	wantSeen(t, seen, 1000, "over, cut, numbers, clones")
}

// wantTidy asks that each end was dropped once, and that every channel has no
// senders, and no items.
func wantTidy(t *testing.T, x fineOne, in []int64, picks []int, r api.Report) (tasks, chans int) {
	t.Helper()
	w, _ := turnsOf(t, x.c, in, picks, r.Steps)
	for e, end := range w.All() {
		if end.Drops != 1 || end.Home != api.HomeDropped {
			t.Fatalf("%s with %v: the end %d is %v", x.src, in, e, end)
		}
	}
	for n, c := range w.Chans() {
		if c.Senders != 0 || len(c.Items) > 0 || !c.Gone {
			t.Fatalf("%s with %v: the channel %d is %v", x.src, in, n, c)
		}
	}
	if len(w.Ready()) > 0 || !slices.Equal(w.Out(), r.Out) || len(w.Events()) > 0 {
		t.Fatalf("%s with %v: %v are ready, %v", x.src, in, w.Ready(), w.Events())
	}
	return w.Tasks(), len(w.Chans())
}

// What follows: fine ends: with as many steps as bound.Steps tells, or more, all
// are over, each end was dropped once, and nothing is left in the channels.
func TestFineEnds(t *testing.T) {
	w := newWriter(12)
	seen := map[string]int{}
	for _, x := range manyFine(t, 200, 1500) {
		for _, picks := range w.manyPicks() {
			in := w.someIn()
			most, f := bound.Steps(x.c, len(in))
			if f.Code != 0 || most >= api.Cap {
				seen["no bound"]++
				continue
			}
			r := ran(t, x.c, in, picks, most)
			if r.How != api.RunOver || len(r.Events) > 0 || r.Steps > most {
				t.Fatalf("%s with %v, picks %s: not over within %d steps: %s", x.src, in, short(picks), most, said(r))
			}
			if more := ran(t, x.c, in, picks, pick(w, l(most+1, 1<<40, math.MaxInt))); !sameReport(more, r) {
				t.Fatalf("%s with %v: with more steps %s, want %s", x.src, in, said(more), said(r))
			}
			tasks, chans := wantTidy(t, x, in, picks, r)
			if tasks > 3 {
				seen["tasks"]++
			}
			if chans > 5 {
				seen["chans"]++
			}
			if r.Steps == most {
				seen["just as many"]++
			}
			seen["over"]++
		}
	}
	wantSeen(t, seen, 500, "tasks, chans, just as many, over")
}

// inOrder are the numbers, rising.
func inOrder(out []int64) []int64 {
	list := slices.Clone(out)
	slices.Sort(list)
	return list
}

// What follows: alike, whoever goes on: where nothing is cloned, the same numbers
// are emitted, each as often, in as many steps.
func TestAlike(t *testing.T) {
	w := newWriter(13)
	seen := map[string]int{}
	for _, x := range manyFine(t, 300, 1500) {
		in := w.someIn()
		if most, f := bound.Steps(x.c, len(in)); f.Code != 0 || most >= api.Cap {
			continue
		}
		first := whole(t, x.c, in)
		for _, picks := range w.manyPicks() {
			r := whole(t, x.c, in, picks...)
			alike := r.Steps == first.Steps && slices.Equal(inOrder(r.Out), inOrder(first.Out))
			switch {
			case r.How != api.RunOver:
				t.Fatalf("%s with %v, picks %s: %s", x.src, in, short(picks), said(r))
			case !alike && !x.clones:
				t.Fatalf("%s with %v, picks %s: %s, and %s", x.src, in, short(picks), said(first), said(r))
			case !alike:
			case !slices.Equal(r.Out, first.Out):
				seen["another order"]++
			case len(r.Out) > 0:
				seen["the same order"]++
			}
		}
	}
	wantSeen(t, seen, 300, "another order, the same order")
}

// Where something is cloned, who is faster may tell what is emitted; fine is safe,
// and ends, there, too.
func TestClonesMatter(t *testing.T) {
	list := fineOnes(t, []string{`stage sends(s send int, n int) { send s n; close s; }
stage main(in recv int) { chan s r int 1; clone z s; spawn sends(s, 1); spawn sends(z, 2); take x from r { emit x; repeat x { emit 0; } } drain r; drain in; }`})
	if len(list) != 1 {
		t.Fatal("it is not fine")
	}
	counts := map[string]int{}
	w := newWriter(16)
	for range 200 {
		picks := w.picks(100)
		r := whole(t, list[0].c, nil, picks...)
		wantTidy(t, list[0], nil, picks, r)
		counts[said(r)]++
	}
	if len(counts) != 2 || counts["over 28: 1 0;"] < 10 || counts["over 31: 2 0 0;"] < 10 {
		t.Error(counts)
	}
}

// schedules goes through the runs of code by all picks that there are, at most so
// many; was that all?
func schedules(t *testing.T, c api.Code, in []int64, most int, do func(r api.Report, picks []int)) bool {
	t.Helper()
	var picks []int
	for range most {
		r := whole(t, c, in, picks...)
		do(r, picks)
		_, ready := turnsOf(t, c, in, picks, r.Steps)
		picks = append(slices.Clone(picks), make([]int, len(ready)-len(picks))...)
		for len(picks) > 0 && picks[len(picks)-1]+1 == ready[len(picks)-1] {
			picks = picks[:len(picks)-1]
		}
		if len(picks) == 0 {
			return true
		}
		picks[len(picks)-1]++
	}
	return false
}

// everyRun asks for what follows of each run of a program that is fine, of the
// first so many; how many there are, and are these all?
func everyRun(t *testing.T, x fineOne, in []int64) (runs int, all bool) {
	t.Helper()
	var first api.Report
	all = schedules(t, x.c, in, 800, func(r api.Report, picks []int) {
		if r.How != api.RunOver || len(r.Events) > 0 {
			t.Fatalf("%s with %v, picks %v: %s", x.src, in, picks, said(r))
		}
		if runs == 0 {
			first = r
		}
		if !x.clones && (r.Steps != first.Steps || !slices.Equal(inOrder(r.Out), inOrder(first.Out))) {
			t.Fatalf("%s with %v, picks %v: %s, and %s", x.src, in, picks, said(first), said(r))
		}
		if runs%20 == 0 {
			wantTidy(t, x, in, picks, r)
		}
		runs++
	})
	return runs, all
}

// What follows, of all three: by all picks that there are, of small programs.
func TestAllSchedules(t *testing.T) {
	w := newWriter(14)
	whole, runs := 0, 0
	for _, x := range manyFine(t, 400, 400) {
		in := in(4, -1)[:w.Intn(3)]
		if most, f := bound.Steps(x.c, len(in)); f.Code != 0 || most > 60 {
			continue
		}
		n, all := everyRun(t, x, in)
		if all && n > 1 {
			whole++
		}
		runs += n
	}
	if whole < 40 || runs < 20000 {
		t.Errorf("%d programs, %d runs: too few", whole, runs)
	}
}

// And of what is not fine some are stuck, whoever goes on, and some are over.
func TestNotFine(t *testing.T) {
	for _, x := range []struct {
		what, src string
		want      int
	}{
		{"two tasks that wait for each other's first number", `stage f(a recv int, b send int) { take x from a { emit x; } else { } abandon a; send b 1; close b; }
stage main(in recv int) { chan s r int 1; chan u v int 1; spawn f(r, u); spawn f(v, s); drain in; }`, api.RunStuck},
		{"a task that fills a channel whose other end it has",
			"stage main(in recv int) { chan s r int 1; for x from in { send s x; } drain in; close s; drain r; }", api.RunStuck},
		{"the same, with room for all",
			"stage main(in recv int) { chan s r int 5; for x from in { send s x; } drain in; close s; drain r; }", api.RunOver},
		{"a task that waits for what nobody but itself may send", `stage f(q recv int, s send int) { for x from q { send s x; } drain q; close s; }
stage main(in recv int) { chan a b int 1; chan c d int 1; spawn f(in, a); abandon b; for y from d { emit y; } send c 1; close c; drain d; }`, api.RunStuck},
	} {
		c := lowered(t, x.src)
		if v, f := order.Judge(c); f.Code != 0 || order.Fine(v) {
			t.Errorf("%s: it is fine", x.what)
		}
		schedules(t, c, in(7, 8), 300, func(r api.Report, picks []int) {
			if r.How != x.want || (len(r.Events) > 0) != (x.want == api.RunStuck) {
				t.Errorf("%s, picks %v: %s", x.what, picks, said(r))
			}
		})
	}
}

// What is not fine may be stuck by some picks, and over by others.
func TestNotFineHangsOnPicks(t *testing.T) {
	c := lowered(t, `stage sends(s send int, n int) { send s n; close s; }
stage main(in recv int) {
	drain in;
	chan s r int 1;
	chan u v int 1;
	clone z s;
	spawn sends(s, 1);
	spawn sends(z, 2);
	take x from r { if x == 1 { } else { take y from v { } } } else { }
	close u;
	drain v;
	drain r;
}`)
	counts := map[int]int{}
	w := newWriter(15)
	for range 200 {
		counts[whole(t, c, nil, w.picks(100)...).How]++
	}
	if counts[api.RunStuck] < 10 || counts[api.RunOver] < 10 || len(counts) != 2 {
		t.Errorf("ends are %v", counts)
	}
}
