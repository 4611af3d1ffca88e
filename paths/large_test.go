package paths

import (
	"slices"
	"testing"

	"pipewright/api"
)

// lengths are of Procs: up to MaxIns and beyond it.
var lengths = []int{api.MaxIns - 1, api.MaxIns, api.MaxIns + 1, 10 * api.MaxIns, 250 * api.MaxIns}

// filled has n instructions, each as at tells it.
func filled(n int, at func(i int) api.Ins) api.Proc {
	p := api.Proc{Ins: make([]api.Ins, n)}
	for i := range p.Ins {
		p.Ins[i] = at(i)
	}
	return p
}

// P1: each call ends; a way of all instructions, forth and back.
func TestLongWays(t *testing.T) {
	for _, n := range lengths {
		inTime(t, "forth", func() {
			forth := filled(n, func(i int) api.Ins { return api.Ins{Op: api.InEmit} })
			wantReach(t, forth, upTo(n)...)
			wantPath(t, forth, 0, n-1, upTo(n)...)
			wantPath(t, forth, n-1, 0)
			wantIs(t, forth, upTo(n), true)
			wantIs(t, forth, upTo(n+1), false)
			wantNext(t, forth, n-2, n-1)
			wantNext(t, forth, n-1)
			wantNext(t, forth, n)
		})
		inTime(t, "back", func() {
			back := filled(n, func(i int) api.Ins { return api.Ins{Op: api.InJump, To: i - 1} })
			down := upTo(n)
			slices.Reverse(down)
			wantReach(t, back, 0)
			wantPath(t, back, n-1, 0, down...)
			wantIs(t, back, down, true)
			wantIs(t, back, upTo(n), false)
			back.Ins[0].To = n - 1
			wantReach(t, back, upTo(n)...)
			wantPath(t, back, 0, 1, append([]int{0}, down[:n-1]...)...)
			wantPath(t, back, 0, 0, 0)
		})
	}
}

// P1 and P7.3: so many choices, one behind the other, that nobody goes along
// all ways; in each the lower one is told.
func TestManyWays(t *testing.T) {
	for _, n := range lengths {
		choices := n / 5
		// if, let, jump; let, let
		p := filled(5*choices+1, func(i int) api.Ins {
			switch i % 5 {
			case 0:
				return api.Ins{Op: forks[i%3], To: i + 3}
			case 2:
				return api.Ins{Op: api.InJump, To: i + 3}
			}
			return api.Ins{Op: api.InLet}
		})
		p.Ins[5*choices].Op = api.InExit
		var want []int
		for k := range choices {
			want = append(want, 5*k, 5*k+1, 5*k+2)
		}
		want = append(want, 5*choices)
		inTime(t, "choices", func() {
			wantPath(t, p, 0, 5*choices, want...)
			wantReach(t, p, upTo(5*choices+1)...)
			wantIs(t, p, want, true)
		})
	}
}

// P1 and P7.3: the same, the lower one by To each time: each choice stands
// ahead of the one that is gone to before it.
func TestManyWaysBack(t *testing.T) {
	for _, n := range lengths {
		choices := n / 5
		// let, jump, if, let, jump; all leads to the if of the five ahead
		p := filled(5*choices, func(i int) api.Ins {
			switch i % 5 {
			case 1:
				return api.Ins{Op: api.InJump, To: i - 4}
			case 2:
				return api.Ins{Op: forks[i%3], To: i - 2}
			case 4:
				return api.Ins{Op: api.InJump, To: i - 7}
			}
			return api.Ins{Op: api.InLet}
		})
		var want []int
		for k := choices - 1; k > 0; k-- {
			want = append(want, 5*k+2, 5*k, 5*k+1)
		}
		want = append(want, 2)
		inTime(t, "choices back", func() {
			wantPath(t, p, 5*choices-3, 2, want...)
			wantPath(t, p, 2, 5*choices-3)
			wantReach(t, p, 0, 1)
			wantIs(t, p, want, true)
		})
	}
}

// P1: each one forks, and loops lie within loops.
func TestForksAlone(t *testing.T) {
	for _, n := range lengths {
		inTime(t, "forks", func() {
			first := filled(n, func(i int) api.Ins { return api.Ins{Op: api.InIf, To: 0} })
			wantReach(t, first, upTo(n)...)
			wantPath(t, first, n-1, n-2, append([]int{n - 1}, upTo(n-1)...)...)
			itself := filled(n, func(i int) api.Ins { return api.Ins{Op: api.InTake, To: i} })
			wantPath(t, itself, 0, n-1, upTo(n)...)
			wantPath(t, itself, 1, 0)
			last := filled(n, func(i int) api.Ins { return api.Ins{Op: api.InCount, To: n - 1} })
			wantPath(t, last, 0, n-1, 0, n-1)
			wantPath(t, last, 0, n-2, upTo(n-1)...)
			two := filled(n, func(i int) api.Ins { return api.Ins{Op: api.InIf, To: i + 2} })
			wantReach(t, two, upTo(n)...)
			// By twos; and where a single step is left over, that comes first.
			want := []int{0}
			for i := 1 + n%2; i < n; i += 2 {
				want = append(want, i)
			}
			wantPath(t, two, 0, n-1, want...)
		})
	}
}

// P1 and P7.4: a way that goes round and round.
func TestLongRounds(t *testing.T) {
	inTime(t, "rounds", func() {
		p := code("take:3 emit jump:0 drain over exit")
		way := slices.Repeat(l(0, 1, 2), 1000000)
		wantIs(t, p, append(way, 0, 3, 4, 5), true)
		wantIs(t, p, append(way, 0, 3, 4, 5, 0), false)
		wantIs(t, p, append(way, 1), false)
		wantIs(t, code("jump:0"), make([]int, 3000000), true)
		wantIs(t, code("let"), make([]int, 3000000), false)
	})
}
