package world

import "testing"

// P17: several worlds beside each other, of the same code: they know nothing of
// each other.
func TestBeside(t *testing.T) {
	c := lowered(t, "stage f(s send int) { send s 1; close s; } stage main(in recv int) { chan s r int 1; spawn f(s); for x from r { emit x; } drain r; drain in; }")
	a, b := begun(t, c, 5), begun(t, c)
	before := viewOf(b)
	runs(t, a)
	if got := viewOf(b); got != before {
		t.Fatalf("%+v became %+v", before, got)
	}
	shows(t, a, "1! 0!", "s0:-1 r0:-1 s1:-1 r1:-1", "0/0[]- 1/0[]-", "", "1")
	goes(t, b, 0, 0)
	a.Drop(1)
	a.Make(1, 0)
	shows(t, b, "1@2?1 0@0", "s0:-1 r0:0 s1:1 r1:0", "0/0[] 1/1[]", "", "")
}

// P17: many worlds in turn, as they are drawn, each held against plain lists of
// its own; some are of the same code.
func TestManyBeside(t *testing.T) {
	w := newWriter(4)
	var list []*twin
	for range 8 {
		x := w.twin(t, 30)
		in := w.inputs()
		list = append(list, x, &twin{w, begun(t, x.plain.c, in...), newPlain(x.plain.c, in)})
	}
	for n := range 6000 {
		x := pick(w, list)
		x.step(t)
		if n%3 == 0 {
			x.call(t)
		}
		if n%100 > 0 {
			continue
		}
		for _, x := range list {
			x.plain.alike(t, x.world)
		}
	}
}
