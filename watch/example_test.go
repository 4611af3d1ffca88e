package watch

import (
	"testing"

	"pipewright/order"
)

// The chapter's example: RunStuck behind one step, and not fine.
func TestExample(t *testing.T) {
	c := lowered(t, "stage main(in recv int) { chan s r int 1; take x from r { } drain in; close s; drain r; }")
	for _, picks := range [][]int{nil, l(0), l(-1), l(5, 4, 3)} {
		wants(t, c, nil, picks, 100, "stuck 1: ; stuck:-1@-1:-1")
		wants(t, c, in(1, 2, 3), picks, 100, "stuck 1: ; stuck:-1@-1:-1")
	}
	wants(t, c, nil, nil, 1, "stuck 1: ; stuck:-1@-1:-1")
	wants(t, c, nil, nil, 0, "cut 0: ;")
	v, f := order.Judge(c)
	if f != fault(0, 0) || order.Fine(v) {
		t.Errorf("it is fine: %v %v", v, f)
	}
	// It waits for r as it holds s.
	if w := v.Round[0]; len(v.Round) != 1 || w.Held != 1 || w.On != 2 || w.At != 1 {
		t.Errorf("the round is %v", v.Round)
	}
}

// The document's: the second close uses what is gone.
func TestClosedTwice(t *testing.T) {
	c := lowered(t, "stage main(in recv int) { chan s r int 1; close s; close s; drain r; drain in; }")
	wants(t, c, nil, nil, 100, "over 9: ; twice:0@51:2")
}

// The document's: a stage that copies is fine, and nothing is wrong; two that
// send to one another get stuck.
func TestCopies(t *testing.T) {
	f := "stage f(a recv int, b send int) { for x from a { send b x; } drain a; close b; }\n"
	c := lowered(t, f+"stage main(in recv int) { chan s r int 1; spawn f(in, s); for x from r { emit x; } drain r; }")
	for _, picks := range [][]int{nil, l(1, 1, 1, 1, 1, 1, 1, 1, 1, 1), wildPicks} {
		wants(t, c, in(4, 5, 6), picks, 100, "over 32: 4 5 6;")
	}
	c = lowered(t, f+"stage main(in recv int) { chan s r int 1; chan u v int 1; spawn f(r, u); spawn f(v, s); drain in; }")
	wants(t, c, in(4, 5, 6), nil, 100, "stuck 14: ; stuck:-1@-1:-1")
}

// The document's: of a stage that sends each of 3 numbers twice, 6 go through.
func TestSentTwice(t *testing.T) {
	c := lowered(t, `stage twice(a recv int, b send int) { for x from a { repeat 2 { send b x; } } drain a; close b; }
stage main(in recv int) { chan s r int 1; spawn twice(in, s); for x from r { emit x; } drain r; }`)
	for _, picks := range [][]int{nil, l(1, 1, 1, 1, 1, 1, 1, 1, 1, 1), wildPicks} {
		wants(t, c, in(4, -5, 6), picks, 1000, "over 62: 4 4 -5 -5 6 6;")
	}
}

// The document's: an end that is sent through a channel whose end to receive is
// dropped is dropped with it.
func TestSentAndDropped(t *testing.T) {
	for _, src := range []string{
		"stage main(in recv int) { chan a b recv int 2; abandon b; send a in; close a; }",
		"stage main(in recv int) { chan a b recv int 2; send a in; abandon b; close a; }",
	} {
		wants(t, lowered(t, src), in(1, 2), nil, 100, "over 8: ;")
	}
}
