package paths

import (
	"math"
	"slices"
	"testing"

	"pipewright/api"
)

// forks are the Ops with the next one and To.
var forks = []int{api.InIf, api.InCount, api.InTake}

// five has an instruction at 2, and instructions around it that lead on.
func five(op, to int) api.Proc {
	p := code("let let let let exit")
	p.Ins[2] = api.Ins{Op: op, To: to}
	return p
}

// someOps are 0 to 18, some below 0 and some far away.
func someOps() []int { return append(upTo(19), wild...) }

func leadsOn(op int) bool {
	return op != api.InExit && op != api.InJump && !slices.Contains(forks, op)
}

// P7.1: of most instructions, of those that are none of the api's, too, the
// next one comes alone, whatever To is.
func TestNextOfThoseThatLeadOn(t *testing.T) {
	count := 0
	for _, op := range someOps() {
		if !leadsOn(op) {
			continue
		}
		count++
		for _, to := range append(wild, 0, 1, 2, 3, 4, 5, 6) {
			wantNext(t, five(op, to), 2, 3)
			last := five(op, to)
			last.Ins = last.Ins[:3]
			wantNext(t, last, 2)
			alone := api.Proc{Ins: last.Ins[2:]}
			wantNext(t, alone, 0)
		}
	}
	if count != 14+len(wild) {
		t.Errorf("%d lead on", count)
	}
}

// P7.1: of InExit nothing comes.
func TestNextOfExit(t *testing.T) {
	for _, to := range append(wild, 0, 1, 2, 3, 4, 5) {
		p := five(api.InExit, to)
		wantNext(t, p, 2)
		p.Ins = p.Ins[:3]
		wantNext(t, p, 2)
	}
}

// P7.1: of InJump To comes alone.
func TestNextOfJump(t *testing.T) {
	for to := range 5 {
		wantNext(t, five(api.InJump, to), 2, to)
	}
	for _, to := range append(wild, 5, 6) {
		wantNext(t, five(api.InJump, to), 2)
	}
	p := five(api.InJump, 1)
	p.Ins = p.Ins[:3]
	wantNext(t, p, 2, 1)
	p.Ins[2].To = 2
	wantNext(t, p, 2, 2)
	p.Ins[2].To = 3
	wantNext(t, p, 2)
}

// P7.1: of InIf, InCount, InTake the next one and To come, rising, and once
// where they are one.
func TestNextOfForks(t *testing.T) {
	for _, op := range forks {
		wantNext(t, five(op, 0), 2, 0, 3)
		wantNext(t, five(op, 1), 2, 1, 3) // just ahead of it
		wantNext(t, five(op, 2), 2, 2, 3) // itself
		wantNext(t, five(op, 3), 2, 3)    // the next one
		wantNext(t, five(op, 4), 2, 3, 4) // the last one
		for _, to := range append(wild, 5, 6) {
			wantNext(t, five(op, to), 2, 3)
		}
		// As the last instruction.
		for to, want := range [][]int{{0}, {1}, {2}, nil, nil} {
			p := five(op, to)
			p.Ins = p.Ins[:3]
			wantNext(t, p, 2, want...)
		}
		for _, to := range wild {
			p := five(op, to)
			p.Ins = p.Ins[:3]
			wantNext(t, p, 2)
		}
		// As the only one.
		wantNext(t, api.Proc{Ins: []api.Ins{{Op: op, To: 0}}}, 0, 0)
		wantNext(t, api.Proc{Ins: []api.Ins{{Op: op, To: 1}}}, 0)
		wantNext(t, api.Proc{Ins: []api.Ins{{Op: op, To: -1}}}, 0)
	}
}

// P7.1: where there is no i, nothing comes.
func TestNextOfNone(t *testing.T) {
	for _, i := range append(wild, 0, 1, 2) {
		wantNext(t, api.Proc{}, i)
		wantNext(t, api.Proc{Ins: []api.Ins{}, Blocks: []api.Block{{Kind: 1}}}, i)
	}
	for _, op := range someOps() {
		for _, to := range []int{-1, 0, 1, 2, 3, 4, 5} {
			for _, i := range append(wild, 5, 6) {
				wantNext(t, five(op, to), i)
				wantNext(t, api.Proc{Ins: slices.Repeat([]api.Ins{{Op: op, To: to}}, 5)}, i)
			}
		}
	}
}

// P7.1: each Op at each place with each To, in Procs of each length up to six,
// by the chapter's words.
func TestNextEverywhere(t *testing.T) {
	tos := append(slices.Clone(wild), upTo(8)...)
	for n := 1; n <= 6; n++ {
		for at := range n {
			for _, op := range someOps() {
				for _, to := range tos {
					p := api.Proc{Ins: slices.Repeat([]api.Ins{{Op: api.InJump, To: at}}, n)}
					p.Ins[at] = api.Ins{Op: op, To: to}
					wantNext(t, p, at, slowNext(p, at)...)
				}
			}
		}
	}
}

// P7.1: nothing else of the instruction, of the others and of the Proc counts.
func TestNextHangsOnOpAndToAlone(t *testing.T) {
	for _, op := range someOps() {
		for _, to := range []int{-1, 0, 1, 2, 3, 4, 5} {
			p := five(op, to)
			want := Next(p, 2)
			for _, n := range append(wild, 1, 3) {
				q := api.Proc{
					Name: "x", Params: n, Vars: []api.Var{{T: "?"}}, Blocks: []api.Block{{Kind: n, Parent: n, A: n, N: n}},
					Ins: slices.Repeat([]api.Ins{{Op: n, To: n}}, 5),
				}
				q.Ins[2] = api.Ins{
					Op: op, To: to, A: n, B: n, N: n, T: "x", Block: n, Loop: n, At: n,
					E: []api.Push{{Op: n, N: math.MinInt64}}, Args: []api.Arg{{V: n}},
				}
				wantNext(t, q, 2, want...)
			}
		}
	}
}
