package mean

import "testing"

// The chapter's example: 7 is emitted in the second deed; for, emit, for, drain,
// and the end are five deeds.
func TestExample(t *testing.T) {
	m := begunMain(t, "for x from in { emit x; } drain in;", 7)
	shows(t, m, "0", "s0:-1 r0:0", "0/0[7]", "", "")
	goes(t, m, 0)
	shows(t, m, "0", "s0:-1 r0:0", "0/0[]", "", "")
	for range 2 {
		goes(t, m, 0)
		shows(t, m, "0", "s0:-1 r0:0", "0/0[]", "", "7")
	}
	goes(t, m, 0)
	shows(t, m, "0", "s0:-1 r0:-1", "0/0[]-", "", "7")
	goes(t, m, 0)
	shows(t, m, "0!", "s0:-1 r0:-1", "0/0[]-", "", "7")
	stays(t, m, 0, 1)
}

// The document's: the second close uses what is gone.
func TestClosedTwice(t *testing.T) {
	m := begunOf(t, parsed(t, "stage main(in recv int) { chan s r int 1; close s; close s; drain r; drain in; }"))
	if n := runs(t, m); n != 6 {
		t.Errorf("%d deeds", n)
	}
	shows(t, m, "0!", "s0:-1 r0:-1 s1:-1 r1:-1", "0/0[]- 1/0[]-", "twice:0@51:2", "")
}

// The document's: a stage that copies; two such stages that send to one another
// may have to wait for each other, and nobody goes on.
func TestCopies(t *testing.T) {
	const f = "stage f(a recv int, b send int) { for x from a { send b x; } drain a; close b; }\n"
	m := begun(t, f+"stage main(in recv int) { chan s r int 1; spawn f(in, s); for x from r { emit x; } drain r; }", 4, 5, 6)
	runs(t, m)
	shows(t, m, "1! 0!", "s0:-1 r0:-1 s1:-1 r1:-1", "0/0[]- 1/0[]-", "", "4 5 6")
	m = begun(t, f+"stage main(in recv int) { chan s r int 1; chan u v int 1; spawn f(r, u); spawn f(v, s); drain in; }", 4, 5, 6)
	runs(t, m)
	shows(t, m, "1! 0?1 0?2", "s0:-1 r0:-1 s1:2 r1:1 s2:1 r2:2", "0/0[]- 1/1[] 1/1[]", "", "")
	stays(t, m, 0, 1, 2)
}

// The document's: of a stage that sends each of 3 numbers twice, 6 go through.
func TestSentTwice(t *testing.T) {
	m := begun(t, `stage twice(a recv int, b send int) { for x from a { repeat 2 { send b x; } } drain a; close b; }
stage main(in recv int) { chan s r int 1; spawn twice(in, s); for x from r { emit x; } drain r; }`, 4, -5, 6)
	runs(t, m)
	shows(t, m, "1! 0!", "s0:-1 r0:-1 s1:-1 r1:-1", "0/0[]- 1/0[]-", "", "4 4 -5 -5 6 6")
}

// The document's: an end that is sent through a channel whose end to receive is
// dropped is dropped with it.
func TestSentAndDropped(t *testing.T) {
	for _, does := range []string{"chan a b recv int 2; abandon b; send a in; close a;", "chan a b recv int 2; send a in; abandon b; close a;"} {
		m := begunMain(t, does)
		runs(t, m)
		shows(t, m, "0!", "s0:-1 r0:-1 s1:-1 r1:-1", "0/0[]- 2/0[]-", "", "")
	}
}
