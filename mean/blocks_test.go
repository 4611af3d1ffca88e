package mean

import (
	"fmt"
	"slices"
	"strings"
	"testing"

	"pipewright/api"
)

// P19.2: take: one deed: an item: then its Body; none: then its Else.
func TestTake(t *testing.T) {
	const does = "take x from in { emit x; emit 1; } else { emit 2; emit 3; } emit 4;"
	m := begunMain(t, does, 7, 8)
	goes(t, m, 0)
	shows(t, m, "0", "s0:-1 r0:0", "0/0[8]", "", "")
	goes(t, m, 0, 0, 0)
	tells(t, m, "", "7 1 4")
	m = begunMain(t, does)
	goes(t, m, 0)
	shows(t, m, "0", "s0:-1 r0:0", "0/0[]", "", "")
	goes(t, m, 0, 0, 0)
	tells(t, m, "", "2 3 4")
	m = begunMain(t, "take x from in { emit x; } take y from in { emit y; } emit 4;", 7)
	goes(t, m, 0, 0, 0, 0)
	tells(t, m, "", "7 4")
}

// P19.2: something wrong: then its Else.
func TestTakeOfWhatIsGone(t *testing.T) {
	m := begunMain(t, "abandon in; take x from in { emit x; } else { emit 2; emit 3; } emit 4;", 7)
	goes(t, m, 0, 0)
	tells(t, m, "gone:0@101:1", "")
	goes(t, m, 0, 0, 0)
	tells(t, m, "gone:0@101:1", "2 3 4")
	m = begunMain(t, "abandon in; take x from in { emit x; } emit 4;", 7)
	goes(t, m, 0, 0, 0)
	tells(t, m, "gone:0@101:1", "4")
}

// P19.2: take waits while there are senders, and no items.
func TestTakeWaits(t *testing.T) {
	m := begun(t, "stage f(s send int) { send s 4; close s; } stage main(in recv int) { chan a b int 1; spawn f(a); take x from b { emit x; } take y from b { emit 8; } else { emit 9; } }")
	goes(t, m, 0, 0)
	shows(t, m, "1?1 0", "s0:-1 r0:0 s1:1 r1:0", "0/0[] 1/1[]", "", "")
	stays(t, m, 0)
	goes(t, m, 1, 0, 0)
	shows(t, m, "1?1 0", "s0:-1 r0:0 s1:1 r1:0", "0/0[] 1/1[]", "", "4")
	stays(t, m, 0)
	goes(t, m, 1, 0, 0)
	tells(t, m, "", "4 9")
}

// P19.2: for: one deed each time: an item: then its Body, and then it is done
// again; none: what comes behind.
func TestFor(t *testing.T) {
	m := begunMain(t, "for x from in { emit x; emit x * 10; } emit 4;", 7, 8)
	for _, out := range []string{"", "7", "7 70", "7 70", "7 70 8", "7 70 8 80", "7 70 8 80", "7 70 8 80 4"} {
		goes(t, m, 0)
		tells(t, m, "", out)
	}
	m = begunMain(t, "for x from in { emit x; } emit 4;")
	goes(t, m, 0, 0)
	tells(t, m, "", "4")
}

// P19.2: something wrong: what comes behind; once, also in the midst of it.
func TestForOfWhatIsGone(t *testing.T) {
	m := begunMain(t, "abandon in; for x from in { emit x; } emit 4;", 7)
	goes(t, m, 0, 0, 0)
	tells(t, m, "gone:0@101:1", "4")
	m = begunMain(t, "for x from in { emit x; abandon in; } emit 4;", 7, 8)
	goes(t, m, 0, 0, 0, 0)
	tells(t, m, "gone:0@100:1", "7")
	goes(t, m, 0)
	tells(t, m, "gone:0@100:1", "7 4")
}

// P19.2: for waits, at first and in between.
func TestForWaits(t *testing.T) {
	m := begun(t, "stage f(s send int) { send s 4; send s 5; close s; } stage main(in recv int) { chan a b int 1; spawn f(a); for x from b { emit x; } emit 9; }")
	goes(t, m, 0, 0)
	for range 2 {
		stays(t, m, 0)
		if x := m.Task(0); x != (api.Task{Stage: 1, State: api.TaskWaits, Wait: 1}) {
			t.Fatalf("%v", x)
		}
		goes(t, m, 1, 0, 0)
	}
	stays(t, m, 0)
	goes(t, m, 1, 0, 0)
	tells(t, m, "", "4 5 9")
}

// P19.2: take and for of ends: they are the task's then.
func TestTakeEnds(t *testing.T) {
	m := begunMain(t, "chan a b recv int 2; send a in; close a; for r from b { take x from r { emit x; } drain r; } take s from b { } else { emit 6; }", 7, 8)
	goes(t, m, 0, 0, 0)
	shows(t, m, "0", "s0:-1 r0:* s1:-1 r1:0", "0/0[7,8] 2/0[e1]", "", "")
	goes(t, m, 0)
	shows(t, m, "0", "s0:-1 r0:0 s1:-1 r1:0", "0/0[7,8] 2/0[]", "", "")
	goes(t, m, 0, 0, 0, 0, 0, 0, 0)
	shows(t, m, "0", "s0:-1 r0:-1 s1:-1 r1:0", "0/0[]- 2/0[]", "", "7 6")
}

// P19.2: drain: each item is a deed, and the end.
func TestDrain(t *testing.T) {
	m := begunMain(t, "drain in; emit 1;", 4, 5)
	for _, x := range []view{
		{"0", "s0:-1 r0:0", "0/0[5]", "", ""},
		{"0", "s0:-1 r0:0", "0/0[]", "", ""},
		{"0", "s0:-1 r0:-1", "0/0[]-", "", ""},
		{"0", "s0:-1 r0:-1", "0/0[]-", "", "1"},
		{"0!", "s0:-1 r0:-1", "0/0[]-", "", "1"},
	} {
		goes(t, m, 0)
		if got := viewOf(m); got != x {
			t.Fatalf("%+v, want %+v", got, x)
		}
	}
}

// P19.2: drain of what is gone: an event, and what comes behind.
func TestDrainOfWhatIsGone(t *testing.T) {
	m := begunMain(t, "drain in; drain in; emit 1;", 4)
	goes(t, m, 0, 0, 0, 0)
	shows(t, m, "0", "s0:-1 r0:-1", "0/0[]-", "twice:0@101:1", "1")
}

// P19.2: an end that drain takes is dropped, with all that lies in its channel.
func TestDrainOfEnds(t *testing.T) {
	m := begunMain(t, "chan a b recv int 1; chan c d recv recv int 2; send a in; send c b; close c; drain d;", 8, 9)
	goesOn(t, m, 0, 5)
	shows(t, m, "0", "s0:-1 r0:* s1:0 r1:* s2:-1 r2:0", "0/0[8,9] 1/1[e1] 2/0[e3]", "", "")
	goes(t, m, 0)
	shows(t, m, "0", "s0:-1 r0:-1 s1:0 r1:-1 s2:-1 r2:0", "0/0[]- 1/1[]- 2/0[]", "", "")
	goes(t, m, 0)
	shows(t, m, "0", "s0:-1 r0:-1 s1:0 r1:-1 s2:-1 r2:-1", "0/0[]- 1/1[]- 2/0[]-", "", "")
	goes(t, m, 0)
	shows(t, m, "0!", "s0:-1 r0:-1 s1:0 r1:-1 s2:-1 r2:-1", "0/0[]- 1/1[]- 2/0[]-", "leak:0@900:2", "")
}

// P19.2: drain waits while there are senders, and no items, and then goes on where
// it was.
func TestDrainWaits(t *testing.T) {
	m := begun(t, "stage f(s send int) { send s 4; send s 5; close s; } stage main(in recv int) { chan a b int 1; spawn f(a); drain b; emit 1; }")
	goes(t, m, 0, 0)
	for range 2 {
		shows(t, m, "1?1 0", "s0:-1 r0:0 s1:1 r1:0", "0/0[] 1/1[]", "", "")
		stays(t, m, 0)
		goes(t, m, 1, 0)
	}
	stays(t, m, 0)
	goes(t, m, 1, 0)
	shows(t, m, "1 0", "s0:-1 r0:0 s1:-1 r1:-1", "0/0[] 1/0[]-", "", "")
	goes(t, m, 0)
	tells(t, m, "", "1")
}

// P19.2: if: one deed: its E; Body, or Else if it is 0.
func TestIf(t *testing.T) {
	for _, n := range edges {
		m := begunMain(t, "take n from in { if n { emit 1; emit 2; } else { emit 3; } emit 4; }", n)
		goes(t, m, 0, 0)
		tells(t, m, "", "")
		goes(t, m, 0)
		if n == 0 {
			tells(t, m, "", "3")
			goes(t, m, 0)
			tells(t, m, "", "3 4")
			continue
		}
		goes(t, m, 0, 0)
		tells(t, m, "", "1 2 4")
	}
	overIn(t, 4, "drain in; if 3 < 4 { emit 1; }", "", "1")
	overIn(t, 3, "drain in; if 4 < 3 { emit 1; }", "", "")
	overIn(t, 3, "drain in; if 4294967296 * 4294967296 { emit 1; }", "", "")
	overIn(t, 4, "drain in; if 4 == 3 { } else { emit 1; }", "", "1")
}

// P19.2: repeat: one deed, E, cut to 0 .. MaxTurns; then a deed for each turn, and
// one for the end.
func TestRepeat(t *testing.T) {
	for _, n := range edges {
		turns := int(min(max(n, 0), api.MaxTurns))
		m := begunMain(t, "take n from in { repeat n { emit n; emit 5; } emit 4; }", n)
		goes(t, m, 0, 0)
		var out []int64
		for range turns {
			goes(t, m, 0)
			if !slices.Equal(m.Out(), out) {
				t.Fatalf("repeat %d: %v, want %v", n, m.Out(), out)
			}
			goes(t, m, 0, 0)
			out = append(out, n, 5)
		}
		goes(t, m, 0)
		if !slices.Equal(m.Out(), out) {
			t.Fatalf("repeat %d: %v, want %v", n, m.Out(), out)
		}
		goes(t, m, 0)
		if !slices.Equal(m.Out(), append(out, 4)) {
			t.Fatalf("repeat %d: %v, want %v and 4", n, m.Out(), out)
		}
	}
	for n := range 9 {
		overIn(t, 3+2*min(n, 6)+1, fmt.Sprintf("drain in; repeat %d { emit 1; }", n), "", strings.TrimSpace(strings.Repeat("1 ", min(n, 6))))
	}
	overIn(t, 4, "drain in; repeat 999999999999999999 * 10 { emit 1; }", "", "")
	overIn(t, 4, "drain in; repeat -1 { emit 1; }", "", "")
}

// P19.2: one that is come to again is reckoned again, and has its turns anew.
func TestRepeatAgain(t *testing.T) {
	overIn(t, 3+(1+1+2+1+1)+(1+1+4+1+1)+1+1, "drain in; let n = 1; repeat 2 { repeat n { emit n; } set n = n + 1; }", "", "1 2 2")
	m := begunMain(t, "for x from in { repeat x { emit x; } }", 2, 0, 1, -3, 9)
	runs(t, m)
	tells(t, m, "leak:0@900:1", "2 2 1 9 9 9 9 9 9")
}

// P19.2: bodies without statements: the deed that leads to them alone.
func TestEmptyBodies(t *testing.T) {
	overIn(t, 4, "if 1 { } if 0 { } drain in;", "", "")
	overIn(t, 4, "if 1 { } else { emit 1; } if 0 { emit 2; } else { } drain in;", "", "")
	overIn(t, 1+3+1+3, "repeat 3 { } emit 1; drain in;", "", "1")
	overIn(t, 1+1+2, "repeat 0 { } drain in;", "", "")
	overIn(t, 4+2, "for x from in { } drain in;", "", "", 5, 6, 7)
	overIn(t, 1+2+1, "take x from in { } drain in;", "", "", 5, 6)
	overIn(t, 1+2+1, "take x from in { } else { emit 1; } drain in;", "", "", 5, 6)
	overIn(t, 1+1+1, "take x from in { emit 1; } else { } drain in;", "", "")
	overIn(t, 1+3*(1+1+1)+1+2, "repeat 3 { repeat 0 { } } drain in;", "", "")
}

// P19.2: no body at the end of a body, and so on, is any deed.
func TestEmptyWithinEmpty(t *testing.T) {
	overIn(t, 3+2, "if 1 { if 1 { if 0 { } } } drain in;", "", "")
	overIn(t, 1+2*(1+1+1)+1+2, "repeat 2 { if 1 { if 0 { } else { } } } drain in;", "", "")
	overIn(t, 2*(1+1)+1+2, "for x from in { if x { } } drain in;", "", "", 0, 1)
}

// P19.2: blocks within blocks; the last statement of a body may be within a body:
// what comes behind is what stands behind the outer one, or it anew.
func TestBlocksWithinBlocks(t *testing.T) {
	overIn(t, 1+(1+2*4+1)+(1+2+1)+1, "drain in; repeat 2 { if 1 { if 1 { emit 1; } } } repeat 1 { emit 2; }", "", "1 1 2")
	m := begunMain(t, "for x from in { if x < 3 { if x < 2 { emit 1; } else { emit 2; } } else { repeat 2 { if x == 4 { emit 4; } else { emit 3; } } } } emit 9;", 1, 2, 3, 4, 1)
	runs(t, m)
	tells(t, m, "leak:0@900:1", "1 2 3 3 4 4 1 9")
	m = begunMain(t, "take a from in { take b from in { take c from in { emit a * 100 + b * 10 + c; } else { emit 7; } emit 8; } else { emit 6; } } else { emit 5; }", 1, 2, 3)
	runs(t, m)
	tells(t, m, "leak:0@900:1", "123 8")
	for n, out := range []string{"5", "6", "7 8"} {
		m = begunMain(t, "take a from in { take b from in { take c from in { } else { emit 7; } emit 8; } else { emit 6; } } else { emit 5; }", in(1, 2)[:n]...)
		runs(t, m)
		tells(t, m, "leak:0@900:1", out)
	}
}

// P19.2: as deep as blocks may be, by each kind of block.
func TestDeepBlocks(t *testing.T) {
	const deep = api.MaxDepth - 1
	for _, x := range []struct {
		opens string
		in    int
		deeds int // of each block
	}{
		{"if 1 {", 0, 1},
		{"if 0 { emit 1; } else {", 0, 1},
		{"repeat 1 {", 0, 3},
		{"take x@ from in {", deep, 1},
		{"take x@ from in { } else {", 0, 1},
		{"for x@ from in {", deep, 2},
	} {
		does := "emit 2;"
		for n := range deep {
			does = strings.ReplaceAll(x.opens, "@", fmt.Sprint(n)) + does + "}"
		}
		m := begunMain(t, does, make([]int64, x.in)...)
		if n := runs(t, m); n != deep*x.deeds+2 {
			t.Errorf("%s: %d deeds", x.opens, n)
		}
		tells(t, m, "leak:0@900:1", "2")
	}
}
