package paths

import (
	"slices"
	"testing"

	"pipewright/api"
)

// P7.4: a list without instructions is no way.
func TestIsOfNothing(t *testing.T) {
	for _, p := range []api.Proc{{}, code("exit"), code("if:0"), code("let exit")} {
		wantIs(t, p, nil, false)
		wantIs(t, p, []int{}, false)
		wantIs(t, p, l(0, 1)[:0], false)
	}
}

// P7.4: one alone is a way, if it is an instruction.
func TestIsOfOne(t *testing.T) {
	for _, p := range []api.Proc{{}, code("exit"), code("if:0"), code("let exit"), code("jump:-1 jump:3 exit"), code("none none none none")} {
		n := len(p.Ins)
		for i := -3; i < n+3; i++ {
			wantIs(t, p, l(i), i >= 0 && i < n)
		}
		for _, i := range wild {
			wantIs(t, p, l(i), false)
		}
	}
}

// P7.4: numbers that are none, at each place, also where To leads there.
func TestIsOfNone(t *testing.T) {
	p := code("let let let let exit")
	way := upTo(5)
	wantIs(t, p, way, true)
	for at := range way {
		for _, none := range append(wild, 5, 6) {
			spoilt := slices.Clone(way)
			spoilt[at] = none
			wantIs(t, p, spoilt, false)
			wantIs(t, p, slices.Insert(slices.Clone(way), at, none), false)
			if at > 0 {
				q := code("let let let let exit")
				q.Ins[at-1] = api.Ins{Op: api.InIf, To: none}
				wantIs(t, q, way, true)
				wantIs(t, q, spoilt, false)
				wantIs(t, q, spoilt[:at+1], false)
			}
		}
	}
	for _, none := range append(wild, 5, 6) {
		wantIs(t, p, append(upTo(5), none), false)
		wantIs(t, p, l(none, none), false)
	}
	// One behind the last one is none, though it would come.
	wantIs(t, code("let let"), l(0, 1, 2), false)
	wantIs(t, code("let let"), l(-1, 0, 1), false)
}

// P7.4: each but the first one comes of the one ahead.
func TestIsOfSteps(t *testing.T) {
	for _, c := range []struct {
		said string
		way  []int
		want bool
	}{
		{"if:2 jump:0 exit", l(0, 1, 0), true},
		{"if:2 jump:0 exit", l(0, 1, 0, 2), true},
		{"if:2 jump:0 exit", l(1, 0, 2), true},
		{"if:2 jump:0 exit", l(1, 2), false},
		{"if:2 jump:0 exit", l(2, 0), false},
		{"if:2 jump:0 exit", l(0, 2, 0), false},
		{"if:2 jump:0 exit", l(0, 0), false},
		// a step that does not come, first, in the middle, last
		{"let let let let exit", l(0, 2, 3, 4), false},
		{"let let let let exit", l(0, 1, 3, 4), false},
		{"let let let let exit", l(0, 1, 2, 4), false},
		{"let let let let exit", l(1, 0), false},
		{"let let let let exit", l(3, 4), true},
		{"let let let let exit", l(4, 3, 2, 1, 0), false},
		// To of those that have none
		{"let:2 exit exit", l(0, 2), false},
		{"exit:1 exit", l(0, 1), false},
		{"turns:0 exit", l(0, 0), false},
		{"jump:2 let exit", l(0, 1), false},
		{"jump:2 let exit", l(0, 2), true},
		// an instruction twice, one behind the other
		{"let exit", l(0, 0), false},
		{"let exit", l(1, 1), false},
		{"exit exit", l(1, 1), false},
		{"exit:0", l(0, 0), false},
		{"jump:0", l(0, 0), true},
		{"jump:0", l(0, 0, 0, 0), true},
		{"if:0 exit", l(0, 0), true},
		{"if:0 exit", l(0, 0, 0, 1), true},
		{"if:0 exit", l(0, 0, 1, 1), false},
		{"if:1 exit", l(0, 0, 1), false},
		{"count:0", l(0, 0), true},
		{"take:0", l(0, 0), true},
		{"let take:1 exit", l(0, 1, 1, 1, 2), true},
		{"let take:1 exit", l(0, 0, 1, 1, 2), false},
		// ways that go round
		{"take:3 emit jump:0 drain over exit", l(0, 1, 2, 0, 1, 2, 0, 3, 4, 5), true},
		{"take:3 emit jump:0 drain over exit", l(2, 0, 1, 2, 0, 1), true},
		{"take:3 emit jump:0 drain over exit", l(0, 1, 2, 0, 2), false},
		{"take:3 emit jump:0 drain over exit", l(0, 1, 2, 3), false},
		{"jump:1 jump:0", l(0, 1, 0, 1, 0), true},
		{"jump:1 jump:0", l(0, 1, 1, 0), false},
		// from what is not reached
		{"exit let exit", l(1, 2), true},
	} {
		wantIs(t, code(c.said), c.way, c.want)
	}
}

// P7.4: each Op, by each step.
func TestIsOfEachOp(t *testing.T) {
	for _, op := range someOps() {
		for _, to := range append(wild, 0, 1, 2, 3, 4, 5) {
			p := five(op, to)
			for b := -1; b < 7; b++ {
				want := slowComes(p, 2, b)
				wantIs(t, p, l(2, b), want)
				wantIs(t, p, l(1, 2, b), want)
				wantIs(t, p, l(0, 1, 2, b), want)
			}
		}
	}
}
