package paths

import (
	"math/rand"
	"slices"
	"testing"

	"pipewright/api"
	"pipewright/lower"
	"pipewright/syntax"
)

// The chapter's examples.
func TestExamples(t *testing.T) {
	p := code("if:2 jump:0 exit")
	wantNext(t, p, 0, 1, 2)
	wantPath(t, p, 1, 2, 1, 0, 2)
	wantReach(t, p, 0, 1, 2)
}

// eachProc makes all Procs of n instructions, each one that leads on, ends,
// jumps or forks, with each To from -1 to n.
func eachProc(n int, do func(p api.Proc)) {
	choices := []api.Ins{{Op: api.InLet}, {Op: api.InExit}}
	for to := -1; to <= n; to++ {
		choices = append(choices, api.Ins{Op: api.InJump, To: to}, api.Ins{Op: forks[(to+1)%3], To: to})
	}
	p := api.Proc{Ins: make([]api.Ins, n)}
	var lay func(i int)
	lay = func(i int) {
		if i == n {
			do(p)
			return
		}
		for _, p.Ins[i] = range choices {
			lay(i + 1)
		}
	}
	lay(0)
}

// P7.1 to P7.4 and 'What follows', held against all ways, up to the length that
// the shortest one has at most.
func holdAgainstAllWays(t *testing.T, p api.Proc) {
	t.Helper()
	n := len(p.Ins)
	var reached []int
	for from := range n {
		wantNext(t, p, from, slowNext(p, from)...)
		best := slowBest(slowWays(p, from, n))
		for to := range n {
			way := best[to]
			wantPath(t, p, from, to, way...)
			wantIs(t, p, way, len(way) > 0)
			if from == 0 && len(way) > 0 {
				reached = append(reached, to)
			}
		}
	}
	wantReach(t, p, reached...)
}

func TestAllSmallProcs(t *testing.T) {
	count := 0
	for n := range 5 {
		eachProc(n, func(p api.Proc) {
			count++
			if !t.Failed() {
				holdAgainstAllWays(t, p)
			}
		})
	}
	if want := 1 + 8 + 10*10 + 12*12*12 + 14*14*14*14; count != want {
		t.Errorf("%d Procs, want %d", count, want)
	}
}

// someProc has mostly forks, and now and then what is none of the api's.
func someProc(r *rand.Rand, n int) api.Proc {
	p := api.Proc{Ins: make([]api.Ins, n)}
	for i := range p.Ins {
		op := r.Intn(21) - 1
		switch r.Intn(5) {
		case 0, 1:
			op = forks[r.Intn(3)]
		case 2:
			op = api.InJump
		}
		p.Ins[i] = api.Ins{Op: op, To: r.Intn(n+2) - 1}
		if r.Intn(4) == 0 {
			p.Ins[i].To = i - 2 + r.Intn(5)
		}
	}
	return p
}

func TestSomeProcsAgainstAllWays(t *testing.T) {
	r := rand.New(rand.NewSource(7))
	for k := range 4000 {
		if holdAgainstAllWays(t, someProc(r, 1+k%9)); t.Failed() {
			return
		}
	}
}

// P7.3 in longer ones, where there are too many ways to go along all.
func TestLongerProcs(t *testing.T) {
	r := rand.New(rand.NewSource(8))
	for k := range 300 {
		p := someProc(r, 10+k/3)
		var reached []int
		for to := range p.Ins {
			if len(slowPath(p, 0, to)) > 0 {
				reached = append(reached, to)
			}
		}
		wantReach(t, p, reached...)
		for range 40 {
			from, to := r.Intn(len(p.Ins)), r.Intn(len(p.Ins))
			way := slowPath(p, from, to)
			wantPath(t, p, from, to, way...)
			wantIs(t, p, way, len(way) > 0)
		}
		if t.Failed() {
			return
		}
	}
}

// slowPath is right where slowWays can be asked.
func TestSlowPath(t *testing.T) {
	r := rand.New(rand.NewSource(9))
	for k := range 1000 {
		p := someProc(r, 1+k%8)
		for from := range p.Ins {
			best := slowBest(slowWays(p, from, len(p.Ins)))
			for to := range p.Ins {
				if got := slowPath(p, from, to); !slices.Equal(got, best[to]) {
					t.Fatalf("slowPath(%s, %d, %d): %v, want %v", said(p), from, to, got, best[to])
				}
			}
		}
	}
}

// P7.4: lists as they come, most of them ways but for a step.
func TestSomeLists(t *testing.T) {
	r := rand.New(rand.NewSource(10))
	count := map[bool]int{}
	for k := range 20000 {
		p := someProc(r, 1+k%12)
		list := []int{r.Intn(len(p.Ins))}
		for range r.Intn(20) {
			next := slowNext(p, list[len(list)-1])
			if len(next) == 0 {
				break
			}
			list = append(list, next[r.Intn(len(next))])
		}
		if r.Intn(2) == 0 {
			list[r.Intn(len(list))] = r.Intn(len(p.Ins)+2) - 1
		}
		want := list[0] >= 0 && list[0] < len(p.Ins)
		for i := range list[1:] {
			want = want && slowComes(p, list[i], list[i+1])
		}
		count[want]++
		if wantIs(t, p, list, want); t.Failed() {
			return
		}
	}
	if count[true] < 5000 || count[false] < 5000 {
		t.Errorf("%v: too few of a kind", count)
	}
}

// Code that chapter 6 makes: all of it is come to, and from all of it the end.
func TestLowered(t *testing.T) {
	p, f := syntax.Parse(`stage copy(a recv int, b send int) { for x from a { send b x; } drain a; close b; }
stage main(in recv int) {
	chan s r int 2;
	spawn copy(in, s);
	take y from r { if y < 3 { emit y; } else { repeat 2 { emit 0 - y; } } } else { emit 7; }
	for z from r { if z { } else { emit z; } }
	drain r;
}`)
	if f.Code != 0 {
		t.Fatal(f)
	}
	c, f := lower.Lower(p)
	if f.Code != 0 {
		t.Fatal(f)
	}
	for _, proc := range c.Procs {
		last := len(proc.Ins) - 1
		wantReach(t, proc, upTo(last+1)...)
		for i := range proc.Ins {
			wantPath(t, proc, 0, i, slowPath(proc, 0, i)...)
			wantPath(t, proc, i, last, slowPath(proc, i, last)...)
			wantIs(t, proc, Path(proc, 0, i), true)
			wantIs(t, proc, Path(proc, i, last), true)
		}
	}
	// 0 take 1 send 2 jump 3 drain 4 close 5 over 6 over 7 exit
	wantPath(t, c.Procs[0], 1, 7, 1, 2, 0, 3, 4, 5, 6, 7)
	wantPath(t, c.Procs[0], 2, 1, 2, 0, 1)
	// 0 chan 1 spawn 2 take 3 if 4 emit 5 jump 6 turns 7 count 8 emit 9 jump 10 jump 11 emit
	wantNext(t, c.Procs[1], 2, 3, 11)
	wantNext(t, c.Procs[1], 7, 8, 10)
	wantPath(t, c.Procs[1], 9, 12, 9, 7, 10, 12)
	wantPath(t, c.Procs[1], 11, 4)
}
