package own

import (
	"fmt"
	"math/rand"
	"slices"
	"strings"
	"testing"

	"pipewright/api"
)

// walk goes along all ways of at most so many instructions from the first one
// on, knowing of each variable whether it has an end, and hands over each place
// with what is known there.
func walk(p api.Proc, most int, at func(i int, ends []bool)) {
	var step func(i, left int, ends []bool)
	step = func(i, left int, ends []bool) {
		if at(i, ends); left == 1 {
			return
		}
		for _, to := range slowNext(p, i) {
			then := slices.Clone(ends)
			for v := range then {
				if slowIsEnd(p, v) {
					then[v] = slowStep(p, i, to, v, ends[v])
				}
			}
			step(to, left-1, then)
		}
	}
	if len(p.Ins) == 0 {
		return
	}
	ends := make([]bool, len(p.Vars))
	for v := range ends {
		ends[v] = slowIsEnd(p, v) && v < p.Params
	}
	step(0, most, ends)
}

// harm tells whether an instruction uses or drops what is not there, or binds
// or leaves what is.
func harm(p api.Proc, i int, ends []bool) bool {
	now := slices.Clone(ends)
	for _, a := range slowActs(p, i) {
		wants := a.What == api.ActUse || a.What == api.ActDrop
		if now[a.Var] != wants {
			return true
		}
		if a.What != api.ActUse {
			now[a.Var] = a.What == api.ActBind
		}
	}
	return false
}

// seen is what ways show of a Proc: what was there at each place, and where
// harm was done.
type seen struct {
	states [][]int
	harmed []int
}

func look(p api.Proc, most int) seen {
	s := seen{make([][]int, len(p.Ins)), make([]int, len(p.Ins))}
	for i := range s.states {
		s.states[i] = make([]int, len(p.Vars))
	}
	walk(p, most, func(i int, ends []bool) {
		for v, end := range ends {
			switch {
			case !slowIsEnd(p, v):
			case end:
				s.states[i][v] |= 2
			default:
				s.states[i][v] |= 1
			}
		}
		if harm(p, i, ends) {
			s.harmed[i]++
		}
	})
	return s
}

// holdAgainstWays: along all ways of at most so many instructions each variable
// is as States has it for possible, and harm is done only where a note is. If
// the ways are long enough, it is the other way round, too.
func holdAgainstWays(t *testing.T, p api.Proc, most int, enough bool) {
	t.Helper()
	states, notes, s := States(p), Notes(p), look(p, most)
	for i := range p.Ins {
		for v := range p.Vars {
			was, may := s.states[i][v], states[i][v]
			if was&^may != 0 || enough && was != may {
				t.Fatalf("States(%s) at %d of %d: %d, but ways show %d", said(p), i, v, may, was)
			}
		}
		noted := slices.ContainsFunc(notes, func(n api.Note) bool { return n.At == i })
		if s.harmed[i] > 0 && !noted || enough && noted && s.harmed[i] == 0 {
			t.Fatalf("Notes(%s): %v, but at %d ways show harm %d times", said(p), notes, i, s.harmed[i])
		}
	}
}

// holdAgainstSlow: the same as the second way tells it.
func holdAgainstSlow(t *testing.T, p api.Proc) {
	t.Helper()
	states := slowStates(p)
	if got := States(p); fmt.Sprint(got) != fmt.Sprint(states) {
		t.Fatalf("States(%s): %s, want %s", said(p), shown(got), shown(states))
	}
	if got, want := Notes(p), slowNotes(p, states); !slices.Equal(got, want) {
		t.Fatalf("Notes(%s): %s, want %s", said(p), shown(got), shown(want))
	}
}

// choices are instructions for a Proc of n of them, with two variables.
func choices(n int) []api.Ins {
	said := "let; exit; chan 0 1; chan 1 1; clone 0 1; send 0; give 0 1; give 0 0; close 0; drain 1; spawn 0 0; spawn 1 e0 0; over 0; over 1"
	for to := -1; to <= n; to++ {
		said += fmt.Sprintf("; jump :%d; if :%d; take 0 1 :%d", to, to, to)
	}
	return code("", 0, said).Ins
}

// eachProc makes all Procs of n instructions out of the choices.
func eachProc(n int, do func(p api.Proc)) {
	p := code("si ri", 0, "")
	p.Ins = make([]api.Ins, n)
	var lay func(i int)
	lay = func(i int) {
		if i == n {
			do(p)
			return
		}
		for _, p.Ins[i] = range choices(n) {
			lay(i + 1)
		}
	}
	lay(0)
}

// P8 and 'What follows': all small Procs, against the second way, and along all
// ways that are long enough to come to each place with each state.
func TestAllSmallProcs(t *testing.T) {
	count, fine := 0, 0
	for n := range 4 {
		eachProc(n, func(p api.Proc) {
			for p.Params = range 3 {
				if count++; t.Failed() {
					return
				}
				holdAgainstSlow(t, p)
				holdAgainstWays(t, p, 2*n, true)
				if len(Notes(p)) == 0 {
					fine++
				}
			}
		})
	}
	if want := 3 * (1 + 23 + 26*26 + 29*29*29); count != want || fine < count/20 {
		t.Errorf("%d Procs, %d of them fine, want %d", count, fine, want)
	}
}

// someProc has some variables of ends and some of none, and mostly acts.
func someProc(r *rand.Rand, n, vars int) api.Proc {
	p := api.Proc{Params: r.Intn(vars+3) - 1, Ins: make([]api.Ins, n)}
	for range vars {
		p.Vars = append(p.Vars, api.Var{T: []string{"si", "ri", "rsi", "ri", "si", "??", "i", ""}[r.Intn(8)]})
	}
	number := func() int { return r.Intn(vars+2) - 1 }
	for i := range p.Ins {
		ins := api.Ins{Op: r.Intn(21) - 1, A: number(), B: number(), To: r.Intn(n+2) - 1}
		switch r.Intn(6) {
		case 0:
			ins.Op = api.InIf
		case 1:
			ins.Op = api.InTake
		case 2:
			ins.Op = api.InSpawn
		}
		if r.Intn(2) == 0 {
			ins.To = i - 2 + r.Intn(6)
		}
		for range r.Intn(5) {
			arg := api.Arg{V: number()}
			if r.Intn(3) == 0 {
				arg.E = make([]api.Push, 1+r.Intn(2))
			}
			ins.Args = append(ins.Args, arg)
		}
		p.Ins[i] = ins
	}
	return p
}

func TestSomeProcsAgainstSlow(t *testing.T) {
	r := rand.New(rand.NewSource(21))
	for k := range 6000 {
		holdAgainstSlow(t, someProc(r, 1+k%40, 1+r.Intn(8)))
	}
	for k := range 300 {
		holdAgainstSlow(t, someProc(r, 1+k%60, 1+r.Intn(150)))
	}
}

// 'What follows', in Procs with more variables, along ways as long as there is
// time for.
func TestSomeProcsAgainstWays(t *testing.T) {
	r := rand.New(rand.NewSource(22))
	for k := range 4000 {
		holdAgainstWays(t, someProc(r, 1+k%9, 1+r.Intn(5)), 10, false)
	}
}

// doings counts the acts that some way comes to.
func doings(p api.Proc) int {
	n := 0
	for i, row := range States(p) {
		if slices.Max(row) > 0 {
			n += len(slowActs(p, i))
		}
	}
	return n
}

// lively makes a Proc of which Notes tells nothing: instructions that do
// nothing, and in their stead others, as long as no rule is broken and no less
// is done.
func lively(r *rand.Rand, n, vars int) api.Proc {
	p := someProc(r, n, vars)
	for i := range p.Ins {
		p.Ins[i] = api.Ins{Op: api.InLet}
	}
	for range 12 * n {
		i := r.Intn(n)
		before, did := p.Ins[i], doings(p)
		if p.Ins[i] = someProc(r, n, vars).Ins[i]; len(Notes(p)) > 0 || doings(p) < did {
			p.Ins[i] = before
		}
	}
	return p
}

// 'What follows': no rule broken, no harm done: in Procs without notes that do
// as much as they can.
func TestNoRuleBrokenNoHarmDone(t *testing.T) {
	r := rand.New(rand.NewSource(23))
	acts := 0
	for k := range 1500 {
		p := lively(r, 4+k%9, 1+r.Intn(4))
		if len(Notes(p)) != 0 {
			t.Fatalf("Notes(%s): %v", said(p), Notes(p))
		}
		acts += doings(p)
		s := look(p, 11)
		for i := range p.Ins {
			if s.harmed[i] != 0 {
				t.Fatalf("%s: no note, but at %d harm %d times", said(p), i, s.harmed[i])
			}
		}
		holdAgainstWays(t, p, 11, false)
	}
	if acts < 5000 {
		t.Errorf("%d acts are too few", acts)
	}
}

// someBody writes statements of a program that binds s, r, t in each block that
// has them, names as they come.
func someBody(r *rand.Rand, deep int, count *int) string {
	var b strings.Builder
	for range 1 + r.Intn(4) {
		*count++
		n := *count
		switch k := r.Intn(9); {
		case k < 2:
			fmt.Fprintf(&b, "chan s%d r%d int 1; ", n, n)
			for _, line := range []string{"close s%d; ", "send s%d 1; ", "drain r%d; ", "abandon r%d; ", "close s%d; "} {
				if r.Intn(2) == 0 {
					fmt.Fprintf(&b, line, n)
				}
			}
		case k == 2:
			fmt.Fprintf(&b, "chan s%d r%d int 2; clone t%d s%d; spawn two(s%d, t%d); ", n, n, n, n, n, n)
		case k == 3:
			b.WriteString("drain in; ")
		case deep == 0:
			b.WriteString("emit 1; ")
		case k == 4:
			b.WriteString("if 1 { " + someBody(r, deep-1, count) + "} else { " + someBody(r, deep-1, count) + "} ")
		case k == 5:
			fmt.Fprintf(&b, "for x%d from in { ", n)
			b.WriteString(someBody(r, deep-1, count) + "} ")
		case k == 6:
			fmt.Fprintf(&b, "take x%d from in { ", n)
			b.WriteString(someBody(r, deep-1, count) + "} ")
		default:
			b.WriteString("repeat 2 { " + someBody(r, deep-1, count) + "} ")
		}
	}
	return b.String()
}

// P8: code that chapter 6 makes.
func TestSomePrograms(t *testing.T) {
	r := rand.New(rand.NewSource(24))
	fine := 0
	for range 400 {
		count := 0
		body := someBody(r, 2, &count)
		for count > 8 {
			count = 0
			body = someBody(r, 2, &count)
		}
		p := lowered(t, body)
		holdAgainstSlow(t, p)
		holdAgainstWays(t, p, 14, false)
		if len(Notes(p)) == 0 {
			fine++
		}
	}
	if fine < 4 || fine > 396 {
		t.Errorf("%d of 400 are fine", fine)
	}
}
