package explain

import (
	"fmt"
	"math/rand"
	"slices"
	"testing"

	"pipewright/api"
	"pipewright/own"
	"pipewright/paths"
)

// often are the Ops, those more often that ways hang on.
var often = []int{
	api.InLet, api.InChan, api.InChan, api.InChan, api.InClone, api.InSend, api.InGive, api.InClose, api.InClose, api.InAbandon, api.InDrain,
	api.InSpawn, api.InSpawn, api.InTake, api.InTake, api.InTake, api.InCount, api.InIf, api.InIf, api.InIf, api.InJump, api.InOver, api.InOver, api.InOver,
}

// someProc has some variables, the first one mostly of an end, and mostly acts.
func someProc(r *rand.Rand, n, vars int) api.Proc {
	p := api.Proc{Params: r.Intn(vars+3) - 1, Ins: make([]api.Ins, n)}
	for range vars {
		p.Vars = append(p.Vars, api.Var{T: []string{"si", "ri", "rsi", "ri", "si", "??", "i", ""}[r.Intn(8)]})
	}
	if r.Intn(10) > 0 {
		p.Vars[0].T = "ri"
	}
	number := func() int {
		if r.Intn(3) > 0 {
			return 0
		}
		return r.Intn(vars+2) - 1
	}
	for i := range p.Ins {
		ins := api.Ins{Op: often[r.Intn(len(often))], A: number(), B: number(), To: r.Intn(n+2) - 1}
		if r.Intn(20) == 0 {
			ins.Op = r.Intn(21) - 1
		}
		if r.Intn(2) == 0 {
			ins.To = i - 2 + r.Intn(6)
		}
		for range r.Intn(4) {
			arg := api.Arg{V: number()}
			if r.Intn(3) == 0 {
				arg.E = make([]api.Push, 1+r.Intn(2))
			}
			ins.Args = append(ins.Args, arg)
		}
		p.Ins[i] = ins
	}
	return p
}

// eachNote hands over all notes of a Proc that Why might be asked for, those
// just beside them, too.
func eachNote(p api.Proc, do func(n api.Note)) {
	for rule := 0; rule <= 5; rule++ {
		for at := -1; at <= len(p.Ins); at++ {
			for v := -1; v <= len(p.Vars); v++ {
				do(api.Note{Rule: rule, At: at, Var: v})
			}
		}
	}
}

// againstSlow: Why and Holds as the second way has them; it tells what Why did.
func againstSlow(t *testing.T, p api.Proc, n api.Note) ([]int, api.Fault) {
	t.Helper()
	want, g := slowWhy(p, n)
	way, f := Why(p, n)
	if f != g || !slices.Equal(way, want) {
		t.Fatalf("Why(%s, %v): %s %v, want %s %v", said(p), n, shown(way), f, shown(want), g)
	}
	if Holds(p, n, way) != (f.Code == 0) {
		t.Fatalf("Holds(%s, %v, %s): %v", said(p), n, shown(way), f.Code != 0)
	}
	return way, f
}

// choices are instructions for a Proc of n of them, with two variables.
func choices(n int) []api.Ins {
	said := "let; exit; chan 0 1; chan 0 0; clone 0 1; clone 0 0; send 0; give 0 0; close 0; spawn 0 0; over 0"
	for to := range n {
		said += fmt.Sprintf("; jump :%d; if :%d; take 0 1 :%d; take 0 0 :%d", to, to, to, to)
	}
	return code("", 0, said).Ins
}

// eachProc makes all Procs of n instructions out of the choices.
func eachProc(n int, do func(p api.Proc)) {
	p := code("ri rri", 0, "")
	p.Ins = make([]api.Ins, n)
	all := choices(n)
	var lay func(i int)
	lay = func(i int) {
		if i == n {
			do(p)
			return
		}
		for _, p.Ins[i] = range all {
			lay(i + 1)
		}
	}
	lay(0)
}

// P13: all small Procs, against the second way.
func TestAllSmallProcs(t *testing.T) {
	count := map[int]int{}
	for n := range 4 {
		eachProc(n, func(p api.Proc) {
			for p.Params = range 2 {
				for _, rule := range rules {
					for at := range p.Ins {
						_, f := againstSlow(t, p, api.Note{Rule: rule, At: at})
						count[f.Code]++
					}
				}
			}
		})
	}
	if want := 8 * (15 + 2*19*19 + 3*23*23*23); count[0]+count[api.ErrNone] != want || count[0] < want/20 {
		t.Errorf("%v, want %d in all", count, want)
	}
}

// P13: all lists of numbers, of small Procs as they come.
func TestAllListsOfSomeProcs(t *testing.T) {
	r := rand.New(rand.NewSource(51))
	shows := 0
	for k := range 2000 {
		p := someProc(r, 1+r.Intn(3), 1+r.Intn(2))
		n := api.Note{Rule: 1 + r.Intn(4), At: r.Intn(len(p.Ins)), Var: 0}
		if k%20 == 0 && slowIsNote(p, n) || mayShow(p, n) {
			shows += againstAllLists(t, p, n, 7)
		}
	}
	if shows < 100 {
		t.Errorf("%d notes are shown: too few", shows)
	}
}

// P13: Procs as they come, all their notes, against the second way.
func TestSomeProcs(t *testing.T) {
	r := rand.New(rand.NewSource(52))
	count, lengths := map[int]int{}, map[int]int{}
	for k := range 900 {
		p := someProc(r, 1+k%24, 1+r.Intn(3))
		eachNote(p, func(n api.Note) {
			way, f := againstSlow(t, p, n)
			count[f.Code]++
			lengths[min(len(way), 12)]++
		})
	}
	if count[0] < 5000 || count[api.ErrNone] < 5000 || count[api.ErrRange] < 5000 {
		t.Errorf("too few of one: %v", count)
	}
	for n := 2; n <= 12; n++ {
		if lengths[n] < 20 {
			t.Errorf("too few ways of %d: %v", n, lengths)
		}
	}
}

// mayShow: is there an act at At that breaks the rule, as things may be?
func mayShow(p api.Proc, n api.Note) bool {
	return slowIsNote(p, n) && (slowShows(p, n, true) || slowShows(p, n, false))
}

// winding is a Proc whose ways are long: forks back and forth, and few acts.
func winding(r *rand.Rand, n int) api.Proc {
	p := code("ri rri", r.Intn(2), "")
	for i := range n {
		ins := api.Ins{Op: api.InLet}
		switch r.Intn(10) {
		case 0, 1, 2, 3:
			ins = api.Ins{Op: []int{api.InIf, api.InCount, api.InJump}[r.Intn(3)], To: i - 4 + r.Intn(9)}
		case 4:
			ins = code("", 0, drops[r.Intn(len(drops))]).Ins[0]
		case 5:
			if r.Intn(6) == 0 {
				ins = code("", 0, binds[r.Intn(len(binds))]).Ins[0]
			}
		case 6:
			ins = api.Ins{Op: api.InTake, A: r.Intn(2), B: r.Intn(2), To: i - 4 + r.Intn(9)}
		}
		p.Ins = append(p.Ins, ins)
	}
	return p
}

// P13: longer ways.
func TestSomeWindingProcs(t *testing.T) {
	r := rand.New(rand.NewSource(53))
	long := 0
	for k := range 1500 {
		p := winding(r, 5+k%40)
		for range 60 {
			n := api.Note{Rule: 1 + r.Intn(4), At: r.Intn(len(p.Ins)), Var: r.Intn(2)}
			if !mayShow(p, n) {
				continue
			}
			if way, _ := againstSlow(t, p, n); len(way) > 9 {
				long++
			}
		}
	}
	if long < 100 {
		t.Errorf("%d long ways are too few", long)
	}
}

// wander goes on from what Why tells, or from what binds the variable, as it
// comes; now and then it lays a number in that comes as it will.
func wander(r *rand.Rand, p api.Proc, way []int) []int {
	way = slices.Clone(way)
	if r.Intn(2) == 0 {
		way = l(r.Intn(len(p.Ins)+1) - 1)
	}
	for range r.Intn(8) {
		next := l(0)
		if last := way[len(way)-1]; last >= 0 && last < len(p.Ins) {
			next = slowNext(p, last)
		}
		if len(next) == 0 {
			break
		}
		way = append(way, next[r.Intn(len(next))])
	}
	if r.Intn(8) == 0 {
		way[r.Intn(len(way))] = r.Intn(len(p.Ins)+2) - 1
	}
	return way
}

// P13.2: lists as they come, against the chapter's words.
func TestSomeLists(t *testing.T) {
	r := rand.New(rand.NewSource(54))
	held, not := 0, 0
	for k := range 4000 {
		p := someProc(r, 1+k%12, 1+r.Intn(3))
		n := api.Note{Rule: 1 + r.Intn(4), At: r.Intn(len(p.Ins)), Var: 0}
		best, f := Why(p, n)
		if f.Code != 0 {
			best = l(-1)
		}
		for range 30 {
			way := wander(r, p, best)
			n := n
			if last := way[len(way)-1]; r.Intn(2) == 0 && last >= 0 && last < len(p.Ins) {
				n.At = last
			}
			want := slowHolds(p, n, way)
			if wantHolds(t, p, n, want, way); want {
				held++
			} else {
				not++
			}
		}
		if t.Failed() {
			return
		}
	}
	if held < 2000 || not < 2000 {
		t.Errorf("%d hold and %d do not: too few of one", held, not)
	}
}

// P13 and chapter 8: what a way that may be come to shows, own.Notes tells, too.
func TestWaysAndNotes(t *testing.T) {
	r := rand.New(rand.NewSource(55))
	seen := map[int]int{}
	for k := range 1500 {
		p := someProc(r, 1+k%16, 1+r.Intn(3))
		notes, reached := own.Notes(p), paths.Reach(p)
		eachNote(p, func(n api.Note) {
			way, f := Why(p, n)
			if f.Code != 0 || way[0] >= 0 && !slices.Contains(reached, way[0]) {
				return
			}
			alike := []api.Note{n}
			if n.Rule == api.RuleGone || n.Rule == api.RuleMaybe {
				alike = []api.Note{goneAt(n.At, n.Var), maybeAt(n.At, n.Var)}
			}
			if !slices.ContainsFunc(alike, func(n api.Note) bool { return slices.Contains(notes, n) }) {
				t.Fatalf("Why(%s, %v): %v, but Notes are %v", said(p), n, way, notes)
			}
			seen[n.Rule]++
		})
	}
	for _, rule := range rules {
		if seen[rule] < 200 {
			t.Errorf("too few of the rule %d: %v", rule, seen)
		}
	}
}

// P1
func FuzzExplain(f *testing.F) {
	for i := range int64(30) {
		f.Add(i, uint8(i), uint8(i), int(i), int(i), int(i), []byte{255, 0, byte(i)})
	}
	f.Fuzz(func(t *testing.T, seed int64, ins, vars uint8, rule, at, v int, numbers []byte) {
		p := someProc(rand.New(rand.NewSource(seed)), int(ins)%40, 1+int(vars)%10)
		n := api.Note{Rule: rule, At: at, Var: v}
		againstSlow(t, p, n)
		againstSlow(t, p, api.Note{Rule: 1 + int(seed&3), At: int(ins) % 7, Var: int(vars) % 2})
		var way []int
		for _, b := range numbers {
			way = append(way, int(int8(b)))
		}
		wantHolds(t, p, n, slowHolds(p, n, way), way)
	})
}
