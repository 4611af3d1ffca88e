package mean

import "testing"

// P19: several means beside each other, of the same program: they know nothing of
// each other.
func TestBeside(t *testing.T) {
	p := said(t, "stage f(s send int) { send s 1; close s; } stage main(in recv int) { chan s r int 1; spawn f(s); for x from r { emit x; } drain r; drain in; }")
	a, b := begunOf(t, p, 5), begunOf(t, p)
	before := viewOf(b)
	runs(t, a)
	if got := viewOf(b); got != before {
		t.Fatalf("%+v became %+v", before, got)
	}
	shows(t, a, "1! 0!", "s0:-1 r0:-1 s1:-1 r1:-1", "0/0[]- 1/0[]-", "", "1")
	goes(t, b, 0, 0)
	a.Drop(1)
	a.Make(1, 0)
	shows(t, b, "1?1 0", "s0:-1 r0:0 s1:1 r1:0", "0/0[] 1/1[]", "", "")
}

// P19: many means in turn, as they are drawn, each held against plain lists of its
// own; some are of the same program.
func TestManyBeside(t *testing.T) {
	a := newAuthor(81)
	var list []*twin
	for range 12 {
		p := a.program()
		list = append(list, a.twin(t, p), a.twin(t, p))
	}
	for n := range 6000 {
		x := pick(a, list)
		x.step(t)
		if n%3 == 0 {
			x.call(t)
		}
		if n%100 > 0 {
			continue
		}
		for _, x := range list {
			x.plain.alike(t, x.mean)
		}
	}
	for _, x := range list {
		x.plain.close()
	}
}

// P1: what is answered hangs on what was asked ahead: the same picks once more
// come to the same, also if picks that can't be stand in between.
func TestSamePicks(t *testing.T) {
	for seed := range int64(500) {
		a := newAuthor(seed)
		p, in := a.program(), a.inputs()
		one, other := begunOf(t, p, in...), begunOf(t, p, in...)
		for range 150 {
			k := a.pickOf(one.Tasks())
			can := one.Step(k)
			for _, n := range noTasks {
				other.Step(n)
				other.Task(n)
			}
			if other.Step(k) != can {
				t.Fatalf("drawn from %d: Step(%d) is %v once only", seed, k, can)
			}
		}
		if x, y := viewOf(one), viewOf(other); x != y {
			t.Fatalf("drawn from %d: %+v, and %+v", seed, x, y)
		}
	}
}
