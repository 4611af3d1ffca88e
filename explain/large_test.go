package explain

import (
	"slices"
	"testing"

	"pipewright/api"
)

// lengths are of Procs: up to MaxIns and beyond it.
var lengths = []int{api.MaxIns - 1, api.MaxIns, api.MaxIns + 1, 10 * api.MaxIns, 250 * api.MaxIns}

// filled has two variables of ends, so many parameters, and n instructions, each
// as at tells it.
func filled(params, n int, at func(i int) api.Ins) api.Proc {
	p := code("ri rri", params, "")
	p.Ins = make([]api.Ins, n)
	for i := range p.Ins {
		p.Ins[i] = at(i)
	}
	return p
}

// P1: a way of all instructions.
func TestLongWays(t *testing.T) {
	for _, n := range lengths {
		inTime(t, "forth", func() {
			p := filled(1, n, func(i int) api.Ins { return api.Ins{Op: api.InSend} })
			p.Ins[n-1].Op = api.InOver
			wantWay(t, p, leftAt(n-1, 0), upTo(-1, n)...)
			wantNone(t, p, goneAt(n-2, 0))
			p.Ins[0].Op = api.InClose
			wantWay(t, p, goneAt(n-2, 0), upTo(-1, n-1)...)
			wantNone(t, p, leftAt(n-1, 0))
			wantHolds(t, p, leftAt(n-1, 0), false, upTo(-1, n), upTo(0, n), upTo(1, n))
		})
		inTime(t, "back", func() {
			p := filled(0, n, func(i int) api.Ins { return api.Ins{Op: api.InJump, To: i - 1} })
			p.Ins[n-2] = api.Ins{Op: api.InChan, A: 0, B: 1}
			p.Ins[n-1].To = n - 3
			p.Ins[0] = api.Ins{Op: api.InOver}
			way := append(l(n-2, n-1), upTo(0, n-2)...)
			slices.Reverse(way[2:])
			wantWay(t, p, leftAt(0, 0), way...)
		})
	}
}

// P1 and P13.1: so many choices, one behind the other, that nobody goes along
// all ways; in each the lower one is told, as far as it shows it.
func TestManyWays(t *testing.T) {
	for _, n := range lengths {
		choices := n / 5
		// chan; if, let, jump; let, let; ..; close
		p := filled(0, 5*choices+2, func(i int) api.Ins {
			switch {
			case i == 0:
				return api.Ins{Op: api.InChan, A: 0, B: 1}
			case i%5 == 1:
				return api.Ins{Op: api.InIf, To: i + 3}
			case i%5 == 3:
				return api.Ins{Op: api.InJump, To: i + 3}
			}
			return api.Ins{Op: api.InLet}
		})
		end := 5*choices + 1
		p.Ins[end].Op = api.InDrain
		way := func(higher int) []int {
			all := l(0)
			for k := range choices {
				if k == higher {
					all = append(all, 5*k+1, 5*k+4, 5*k+5)
				} else {
					all = append(all, 5*k+1, 5*k+2, 5*k+3)
				}
			}
			return append(all, end)
		}
		inTime(t, "choices", func() {
			wantNone(t, p, maybeAt(end, 0))
			for _, k := range l(choices/2, choices-1) {
				p.Ins[5*k+4].Op = api.InClose
				wantWay(t, p, maybeAt(end, 0), way(k)...)
				p.Ins[5*k+4].Op = api.InLet
			}
			p.Ins[end].Op = api.InOver
			wantWay(t, p, leftAt(end, 0), way(-1)...)
		})
	}
}

// P1 and P13.1: a variable that is bound everywhere, and all lead to one place.
func TestManyFirsts(t *testing.T) {
	for _, n := range lengths {
		inTime(t, "firsts", func() {
			p := filled(1, n, func(i int) api.Ins {
				if i%2 == 0 {
					return api.Ins{Op: api.InChan, A: 0, B: 1}
				}
				return api.Ins{Op: api.InIf, To: n - 1}
			})
			p.Ins[n-1] = api.Ins{Op: api.InSpawn, Args: []api.Arg{{V: 0}, {V: 1}, {V: 0}}}
			if n%2 == 0 {
				wantWay(t, p, goneAt(n-1, 0), n-2, n-1)
			} else {
				wantWay(t, p, goneAt(n-1, 0), 0, 1, n-1)
				wantHolds(t, p, goneAt(n-1, 0), true, l(n-3, n-2, n-1), l(2, 3, n-1), upTo(-1, n))
			}
			wantNone(t, p, goneAt(n-1, 1))
			wantWay(t, p, keptAt(0, 0), -1, 0)
			wantWay(t, p, keptAt(2, 0), 0, 1, 2)
			p.Ins[n-1].Args = nil
			wantNone(t, p, goneAt(n-1, 0))
		})
	}
}

// P1: loops within loops: each one leads back to the first one, or on; and to
// itself, or on.
func TestManyLoops(t *testing.T) {
	for _, n := range lengths {
		inTime(t, "loops", func() {
			p := filled(1, n, func(i int) api.Ins { return api.Ins{Op: api.InIf, To: 0} })
			p.Ins[n-2] = api.Ins{Op: api.InClose}
			p.Ins[n-1] = api.Ins{Op: api.InJump, To: 0}
			way := append(upTo(-1, n), upTo(0, n-1)...)
			wantWay(t, p, maybeAt(n-2, 0), way...)
			wantNone(t, p, leftAt(n-2, 0))
			p = filled(0, n, func(i int) api.Ins { return api.Ins{Op: api.InTake, A: 1, B: 0, To: i} })
			p.Ins[n-1] = api.Ins{Op: api.InOver, A: 1}
			wantWay(t, p, leftAt(n-1, 1), n-2, n-1)
			wantWay(t, p, keptAt(n-2, 1), n-3, n-2)
			wantNone(t, p, keptAt(0, 1))
		})
	}
}

// P1 and P13.2: a way that goes round and round, past a spawn with as many Args
// as one likes.
func TestLongRounds(t *testing.T) {
	inTime(t, "rounds", func() {
		p, n := round(), goneAt(6, 0)
		p.Ins[3] = api.Ins{Op: api.InSpawn, Args: make([]api.Arg, 200000)}
		for k := range p.Ins[3].Args {
			p.Ins[3].Args[k].V = 1
		}
		way := slices.Concat(l(0), slices.Repeat(l(1, 2, 3, 4), 250000), l(1, 5, 6))
		wantHolds(t, p, n, true, way)
		wantHolds(t, p, n, false, way[1:], way[:len(way)-1], append(way, 6))
		way[600002] = 3
		wantHolds(t, p, n, false, way)
	})
	inTime(t, "itself", func() {
		p := code("ri rri", 1, "take 1 1 :0; jump :0")
		wantHolds(t, p, keptAt(0, 1), false, make([]int, 1000000))
		p.Params = 2
		way := make([]int, 1000000)
		way[0] = -1
		wantHolds(t, p, keptAt(0, 1), true, way)
	})
}

// P1: a spawn with as many Args as one likes at At, and as many variables.
func TestLargeSpawns(t *testing.T) {
	const n = 200000
	p := api.Proc{Vars: slices.Repeat([]api.Var{{T: "si"}}, n), Params: n, Ins: make([]api.Ins, 2)}
	args := make([]api.Arg, n)
	for k := range args {
		args[k].V = k
	}
	inTime(t, "spawns", func() {
		p.Ins[0] = api.Ins{Op: api.InSpawn, Args: args}
		p.Ins[1] = api.Ins{Op: api.InOver, A: n - 1}
		wantNone(t, p, goneAt(0, n-1))
		wantNone(t, p, leftAt(1, n-1))
		p.Ins[1] = api.Ins{Op: api.InClose, A: n - 1}
		wantWay(t, p, goneAt(1, n-1), -1, 0, 1)
		p.Ins[0].Args = append(args, api.Arg{V: n - 1})
		wantWay(t, p, goneAt(0, n-1), -1, 0)
		wantNone(t, p, goneAt(0, n-2))
		wantFault(t, p, goneAt(0, n), fault(api.ErrRange, -1))
	})
}
