package own

import (
	"slices"
	"testing"

	"pipewright/api"
)

// size is of a Proc: as much as there may be, and more.
type size struct{ ins, vars int }

var sizes = []size{
	{api.MaxIns - 1, 2 * api.MaxIns}, {api.MaxIns, 2 * api.MaxIns}, {api.MaxIns + 1, 2*api.MaxIns + 1},
	{10 * api.MaxIns, 500}, {100, 100 * api.MaxIns}, {250 * api.MaxIns, 10},
}

// filled has so many variables of ends and instructions, each as at tells it.
func filled(s size, params int, at func(i int) api.Ins) api.Proc {
	p := api.Proc{Params: params, Vars: make([]api.Var, s.vars), Ins: make([]api.Ins, s.ins)}
	for v := range p.Vars {
		p.Vars[v].T = "si"
	}
	for i := range p.Ins {
		p.Ins[i] = at(i)
	}
	return p
}

// wantCells: States, of each instruction and each variable.
func wantCells(t *testing.T, what string, p api.Proc, want func(i, v int) int) {
	t.Helper()
	states := States(p)
	if len(states) != len(p.Ins) {
		t.Errorf("%s: %d rows, want %d", what, len(states), len(p.Ins))
	}
	for i, row := range states {
		if len(row) != len(p.Vars) {
			t.Errorf("%s: %d in the row %d, want %d", what, len(row), i, len(p.Vars))
			return
		}
		for v, state := range row {
			if state != want(i, v) {
				t.Errorf("%s, %d instructions, %d variables: at %d of %d: %d, want %d", what, len(p.Ins), len(p.Vars), i, v, state, want(i, v))
				return
			}
		}
	}
}

// P1 and P8.1: straight on, each variable bound at an instruction of its own,
// and the last one left alone.
func TestLargeStraight(t *testing.T) {
	for _, s := range sizes {
		last := s.vars - 1
		p := filled(s, 0, func(i int) api.Ins {
			return api.Ins{Op: api.InChan, A: min(2*i, last), B: min(2*i+1, last)}
		})
		inTime(t, "straight", func() {
			wantCells(t, "straight", p, func(i, v int) int {
				if v/2 < i {
					return 2
				}
				return 1
			})
			first := slices.IndexFunc(p.Ins, func(ins api.Ins) bool { return ins.B == last })
			if first < 0 {
				wantNotes(t, p)
				return
			}
			var want []api.Note
			if p.Ins[first].A == last {
				want = append(want, kept(first, last))
			}
			for i := first + 1; i < s.ins; i++ {
				want = append(want, kept(i, last), kept(i, last))
			}
			wantNotes(t, p, want...)
		})
	}
}

// P1 and P8.1: so many choices, one behind the other, that nobody goes along
// all ways.
func TestLargeManyWays(t *testing.T) {
	for _, s := range sizes {
		// if, close; if, close; ..
		p := filled(s, s.vars, func(i int) api.Ins {
			if i%2 == 0 {
				return api.Ins{Op: api.InIf, To: i + 2}
			}
			return api.Ins{Op: api.InClose, A: i / 2}
		})
		inTime(t, "choices", func() {
			wantCells(t, "choices", p, func(i, v int) int {
				if 2*v+2 <= i {
					return 3
				}
				return 2
			})
			wantNotes(t, p)
			end := s.ins - 1
			p.Ins[end-1] = api.Ins{Op: api.InSpawn, Args: []api.Arg{{V: s.vars - 1}, {V: 0}}}
			p.Ins[end] = api.Ins{Op: api.InOver, A: 1}
			at := s.vars - 1
			if at < (end-1)/2 {
				wantNotes(t, p, maybe(end-1, at), maybe(end-1, 0), left(end, 1))
			} else {
				wantNotes(t, p, maybe(end-1, 0), left(end, 1))
			}
		})
	}
}

// P1 and P8.1: each one leads back to the first one, or on.
func TestLargeLoops(t *testing.T) {
	for _, s := range sizes {
		closed := min(s.vars, s.ins/2)
		p := filled(s, s.vars, func(i int) api.Ins {
			if i%2 == 1 && i/2 < closed {
				return api.Ins{Op: api.InClose, A: i / 2}
			}
			return api.Ins{Op: api.InIf, To: 0}
		})
		inTime(t, "loops", func() {
			wantCells(t, "loops", p, func(i, v int) int {
				switch {
				case v >= closed, 2*v+1 == s.ins-1: // never closed, or nothing leads back
					return 2
				case 2*v+1 < i:
					return 1
				}
				return 3
			})
			var want []api.Note
			for v := range closed {
				if 2*v+1 != s.ins-1 {
					want = append(want, maybe(2*v+1, v))
				}
			}
			wantNotes(t, p, want...)
		})
	}
}

// P1 and P8.1: from the last instruction to the first one, back by twos.
func TestLargeBackwards(t *testing.T) {
	for _, s := range sizes {
		n := s.ins &^ 1
		p := filled(size{n, s.vars}, 0, func(i int) api.Ins {
			switch {
			case i == 0:
				return api.Ins{Op: api.InJump, To: n - 2}
			case i%2 == 0:
				return api.Ins{Op: api.InClone, A: i / 2, B: -1}
			}
			return api.Ins{Op: api.InJump, To: i - 3}
		})
		inTime(t, "backwards", func() {
			wantCells(t, "backwards", p, func(i, v int) int {
				switch {
				case i == 1: // nobody comes there
					return 0
				case v == 0 || v >= n/2: // never bound
					return 1
				case i > 0 && (v > i/2 || v == i/2 && i%2 == 1): // bound ahead of it, in each turn
					return 2
				}
				return 3
			})
		})
	}
}

// P1: what is new comes late, and again and again, to a long row behind it.
func TestLargeLateNews(t *testing.T) {
	for _, s := range sizes {
		// A first part in which ways of other lengths close other variables, all
		// leading to one place; and behind that place all are handed through.
		news := min(s.ins/8, 1000)
		door := 4 * news
		p := filled(s, s.vars, func(i int) api.Ins {
			switch {
			case i >= door:
				return api.Ins{Op: api.InSend, A: i % s.vars}
			case i%4 == 0: // on to the next four, or to the door
				return api.Ins{Op: api.InIf, To: i + 4}
			case i%4 == 1:
				return api.Ins{Op: api.InClose, A: i / 4}
			case i%4 == 2:
				return api.Ins{Op: api.InJump, To: door}
			}
			return api.Ins{Op: api.InExit}
		})
		inTime(t, "late news", func() {
			wantCells(t, "late news", p, func(i, v int) int {
				switch {
				case i < door && i%4 == 3:
					return 0
				case i < door && i%4 == 2 && i/4 == v:
					return 1
				case i >= door && v < news:
					return 3
				}
				return 2
			})
			if got := len(Notes(p)); got != countSends(p, door, news) {
				t.Errorf("late news: %d notes, want %d", got, countSends(p, door, news))
			}
		})
	}
}

func countSends(p api.Proc, door, news int) int {
	n := 0
	for _, ins := range p.Ins[door:] {
		if ins.A < news {
			n++
		}
	}
	return n
}

// P1: ends that are taken, in loops within loops.
func TestLargeTakes(t *testing.T) {
	for _, s := range sizes {
		p := filled(s, 1, func(i int) api.Ins {
			return api.Ins{Op: api.InTake, A: min(i+1, s.vars-1), B: 0, To: i / 2}
		})
		inTime(t, "takes", func() {
			wantCells(t, "takes", p, func(i, v int) int {
				switch {
				case v <= i: // the parameter, and what is bound on all ways to i
					return 2
				case v < s.ins: // bound behind it, and led back from there
					return 3
				}
				return 1
			})
		})
	}
}

// P1: a spawn with as many Args as one likes.
func TestLargeSpawns(t *testing.T) {
	const n = 200000
	same, each, down := make([]api.Arg, n), make([]api.Arg, n), make([]api.Arg, 2*n)
	for k := range n {
		same[k].V, each[k].V = 1, k
		down[k].V, down[n+k].V = n-1-k, n-1-k
	}
	p := filled(size{2, n}, n, func(i int) api.Ins { return api.Ins{Op: api.InSpawn} })
	inTime(t, "spawns", func() {
		p.Ins[0].Args, p.Ins[1].Args = same, each
		want := make([]api.Note, n)
		for k := range want {
			want[k] = gone(0, 1)
		}
		want[n-1] = gone(1, 1)
		wantNotes(t, p, want...)
		p.Ins[0].Args, p.Ins[1].Args = down, nil
		for k := range want {
			want[k] = gone(0, n-1-k)
		}
		wantNotes(t, p, want...)
		if got := Acts(p, 0); len(got) != 2*n || got[n] != drop(n-1) {
			t.Errorf("%d acts", len(got))
		}
	})
}

// P1: Notes needs no more than it looks at: many instructions, each with
// variables of its own; and as many that nothing is done to.
func TestLargeNotes(t *testing.T) {
	const n = 10 * api.MaxIns
	for _, vars := range []int{2 * n, 50 * n} {
		p := filled(size{n, vars}, 0, func(i int) api.Ins {
			return api.Ins{Op: api.InChan, A: 2 * i, B: 2*i + 1}
		})
		inTime(t, "notes", func() {
			wantNotes(t, p)
			p.Ins[n-2] = api.Ins{Op: api.InJump, To: n / 2}
			var want []api.Note
			for i := n / 2; i < n-2; i++ {
				want = append(want, kept(i, 2*i), kept(i, 2*i+1))
			}
			wantNotes(t, p, want...)
		})
	}
}
