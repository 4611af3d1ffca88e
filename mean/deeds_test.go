package mean

import (
	"fmt"
	"strings"
	"testing"

	"pipewright/api"
)

// keepers are stages that do nothing with what they are handed.
const keepers = "stage f(a send int) { } stage g(a recv int) { } stage h(a int, b recv int, c send int) { }\n"

// oneDeed asks for all that a mean tells behind one deed, which comes behind what
// stands ahead; that it is one the next deed shows, which emits 99.
func oneDeed(t *testing.T, ahead, does, ends, chans, out string, in ...int64) {
	t.Helper()
	m := begun(t, keepers+"stage main(in recv int) { "+ahead+" "+does+" emit 99; }", in...)
	goesOn(t, m, 0, strings.Count(ahead, ";"))
	goes(t, m, 0)
	tasks := "3"
	if strings.HasPrefix(does, "spawn") {
		tasks += " " + fmt.Sprint(strings.IndexByte("fgh", does[6]))
	}
	shows(t, m, tasks, ends, chans, "", out)
	goes(t, m, 0)
	tells(t, m, "", strings.TrimSpace(out+" 99"))
}

// P19.2: each of let, set, emit, chan, clone, send, close, abandon, spawn is one
// deed, in the order in which they stand.
func TestOneDeed(t *testing.T) {
	const none, empty = "s0:-1 r0:0", "0/0[]"
	oneDeed(t, "", "let n = 5;", none, empty, "")
	oneDeed(t, "let n = 5; emit n;", "set n = n + 1;", none, empty, "5")
	oneDeed(t, "let n = 5; set n = n + 1;", "emit n;", none, empty, "6")
	oneDeed(t, "", "emit 3 * 4;", none, "0/0[8]", "12", 8)
	oneDeed(t, "", "chan a b int 3;", none+" s1:0 r1:0", empty+" 3/1[]", "")
	oneDeed(t, "chan a b int 3;", "chan c d send recv int 5;", none+" s1:0 r1:0 s2:0 r2:0", empty+" 3/1[] 5/1[]", "")
	oneDeed(t, "chan a b int 3;", "clone c a;", none+" s1:0 r1:0 s1:0", empty+" 3/2[]", "")
	oneDeed(t, "chan a b int 3; clone c a;", "clone d c;", none+" s1:0 r1:0 s1:0 s1:0", empty+" 3/3[]", "")
	oneDeed(t, "chan a b int 3; send a 1;", "send a 7 - 9;", none+" s1:0 r1:0", empty+" 3/1[1,-2]", "")
	oneDeed(t, "chan a b int 3; abandon b;", "send a 7;", none+" s1:0 r1:-1", empty+" 3/1[]-", "")
	oneDeed(t, "chan a b recv int 3;", "send a in;", "s0:-1 r0:* s1:0 r1:0", "0/0[4] 3/1[e1]", "", 4)
	oneDeed(t, "chan a b recv int 3; abandon b;", "send a in;", "s0:-1 r0:-1 s1:0 r1:-1", "0/0[]- 3/1[]-", "", 4)
	oneDeed(t, "chan a b int 3; send a 1;", "close a;", none+" s1:-1 r1:0", empty+" 3/0[1]", "")
	oneDeed(t, "chan a b int 3; send a 1;", "abandon b;", none+" s1:0 r1:-1", empty+" 3/1[]-", "")
	oneDeed(t, "chan a b recv int 3; send a in;", "abandon b;", "s0:-1 r0:-1 s1:0 r1:-1", "0/0[]- 3/1[]-", "", 4)
	oneDeed(t, "chan a b int 3;", "spawn f(a);", none+" s1:1 r1:0", empty+" 3/1[]", "")
	oneDeed(t, "chan a b int 3;", "spawn g(b);", none+" s1:0 r1:1", empty+" 3/1[]", "")
	oneDeed(t, "chan a b int 3;", "spawn h(8, in, a);", "s0:-1 r0:1 s1:1 r1:0", empty+" 3/1[]", "")
}

// P19.2: statements are done in their order, each once.
func TestOrder(t *testing.T) {
	m := begunMain(t, "emit 1; let n = 2; emit n; chan a b int 1; emit 3; send a n; emit 4; close a; emit 5; abandon b; emit 6; drain in; emit 7;")
	for n, out := range strings.Split("1|1|1 2|1 2|1 2 3|1 2 3|1 2 3 4|1 2 3 4|1 2 3 4 5|1 2 3 4 5|1 2 3 4 5 6|1 2 3 4 5 6|1 2 3 4 5 6 7", "|") {
		goes(t, m, 0)
		if got := toldOut(m.Out()); got != out {
			t.Fatalf("behind %d deeds: %q, want %q", n+1, got, out)
		}
	}
	goes(t, m, 0)
	shows(t, m, "0!", "s0:-1 r0:-1 s1:-1 r1:-1", "0/0[]- 1/0[]-", "", "1 2 3 4 5 6 7")
}

// P19.2: a set changes the number for all that comes then, in whatever block it
// stands; a let within a block is another name's.
func TestSet(t *testing.T) {
	overIn(t, 15, "let n = 1; if 1 { let k = n + 1; set n = k * 10; if n { set n = n + k; } emit n; } emit n; drain in; repeat 1 { set n = 0; } emit n;", "", "22 22 0")
	overIn(t, 9, "for x from in { set x = x + 1; emit x; } drain in;", "", "6 9", 5, 8)
	m := begun(t, "stage f(n int, a send int) { set n = n * 2; send a n; close a; } stage main(in recv int) { chan a b int 1; spawn f(21, a); take x from b { emit x; set x = 0; emit x; } drain b; drain in; }")
	runs(t, m)
	tells(t, m, "", "42 0")
}

// P19.2: a set in the Body changes what the if, the repeat or the take asked for
// already no more.
func TestAskedOnce(t *testing.T) {
	overIn(t, 4+3*3+2, "drain in; let n = 3; emit n; repeat n { set n = 6; emit n; }", "", "3 6 6 6")
	overIn(t, 5, "drain in; let n = 1; if n { set n = 0; } else { emit 5; }", "", "")
}

// P19.2: InExit's deed stands behind all statements: what is left is told, with
// the stage's place; then the task is over.
func TestExit(t *testing.T) {
	m := begunMain(t, "emit 1;")
	goes(t, m, 0)
	shows(t, m, "0", "s0:-1 r0:0", "0/0[]", "", "1")
	goes(t, m, 0)
	shows(t, m, "0!", "s0:-1 r0:0", "0/0[]", "leak:0@900:1", "1")
	stays(t, m, 0)
	m = begunMain(t, "chan a b int 1; clone c a; chan d e recv int 1; send d b; close a;")
	goesOn(t, m, 0, 6)
	shows(t, m, "0!", "s0:-1 r0:0 s1:-1 r1:* s1:0 s2:0 r2:0", "0/0[] 1/1[] 1/1[e3]", "leak:0@900:1 leak:0@900:4 leak:0@900:5 leak:0@900:6", "")
	m = begunMain(t, "drain in;")
	goes(t, m, 0, 0)
	shows(t, m, "0!", "s0:-1 r0:-1", "0/0[]-", "", "")
}

// P19.2: of another task the place is its own stage's; what others have is not
// told.
func TestExitOfAnother(t *testing.T) {
	m := begun(t, "stage f(a send int) { } stage g(r recv int) { emit 2; } stage main(in recv int) { chan a b int 1; spawn f(a); spawn g(b); drain in; }")
	goes(t, m, 0, 0, 0, 2, 2, 1, 0, 0)
	shows(t, m, "2! 0! 1!", "s0:-1 r0:-1 s1:1 r1:2", "0/0[]- 1/1[]", "leak:2@901:3 leak:1@900:2", "2")
}

// P19.2: a stage without statements: one deed, InExit's.
func TestNoStatements(t *testing.T) {
	m := begunMain(t, "", 4)
	shows(t, m, "0", "s0:-1 r0:0", "0/0[4]", "", "")
	goes(t, m, 0)
	shows(t, m, "0!", "s0:-1 r0:0", "0/0[4]", "leak:0@900:1", "")
	stays(t, m, 0)
	m = begun(t, "stage f() { } stage g(n int) { } stage h(a recv int) { } stage main(in recv int) { spawn f(); spawn g(4); spawn h(in); }")
	goes(t, m, 0, 0, 0)
	shows(t, m, "3 0 1 2", "s0:-1 r0:3", "0/0[]", "", "")
	goes(t, m, 3, 2, 1, 0)
	shows(t, m, "3! 0! 1! 2!", "s0:-1 r0:3", "0/0[]", "leak:3@902:1", "")
}

// P19.2: spawn: a new task behind all others, at its first statement; its
// parameters are the E's, in order, as they are then.
func TestSpawn(t *testing.T) {
	m := begun(t, "stage f(n int, k int) { emit n; emit k; set n = 9; emit n - k; } stage main(in recv int) { let n = 4; spawn f(n, n + 1); set n = 7; spawn f(n * 2, -n); emit n; }")
	goes(t, m, 0, 0, 0, 0)
	shows(t, m, "1 0 0", "s0:-1 r0:0", "0/0[]", "", "")
	goes(t, m, 2, 2, 1, 1, 1, 1, 0, 2, 2)
	tells(t, m, "", "14 -7 4 5 4 7 16")
}

// P19.2: tasks spawn tasks; each is numbered as it comes, and each has names of
// its own, also where the stage is the same.
func TestSpawnWithinSpawn(t *testing.T) {
	m := begun(t, `stage leaf(n int) { set n = n + 10; emit n; }
stage twig(n int) { spawn leaf(n + 1); spawn leaf(n + 2); emit n; }
stage main(in recv int) { spawn twig(100); spawn leaf(200); spawn twig(300); }`)
	goes(t, m, 0, 1, 0, 1, 0, 5, 5)
	shows(t, m, "2 1 0 0 0 1 0 0", "s0:-1 r0:0", "0/0[]", "", "")
	goes(t, m, 7, 7, 1, 2, 3, 4, 5, 6, 6, 4, 3, 2)
	tells(t, m, "", "312 100 300 311 112 210 111")
}

// P19.2: one spawn may be done again and again: a task each time.
func TestSpawnAgain(t *testing.T) {
	m := begun(t, "stage f(s send int, n int) { send s n; close s; } stage main(in recv int) { drain in; let n = 0; repeat 4 { chan a b int 2; spawn f(a, n); set n = n + 1; for x from b { emit x; } drain b; } }")
	runs(t, m)
	shows(t, m, "1! 0! 0! 0! 0!", "s0:-1 r0:-1 s1:-1 r1:-1 s2:-1 r2:-1 s3:-1 r3:-1 s4:-1 r4:-1", "0/0[]- 2/0[]- 2/0[]- 2/0[]- 2/0[]-", "", "0 1 2 3")
}

// P19.2: send waits where the channel is full, and nothing changes; it goes on as
// somebody takes, or lets go of it.
func TestSendWaits(t *testing.T) {
	for does, want := range map[string]view{
		"take x from a { }": {"1 0", "s0:-1 r0:0 s1:0 r1:1", "0/0[] 1/1[2]", "", ""},
		"drain a;":          {"1 0", "s0:-1 r0:0 s1:0 r1:1", "0/0[] 1/1[2]", "", ""},
		"abandon a;":        {"1 0", "s0:-1 r0:0 s1:0 r1:-1", "0/0[] 1/1[]-", "", ""},
	} {
		m := begun(t, "stage g(a recv int) { "+does+" } stage main(in recv int) { chan s r int 1; spawn g(r); send s 1; send s 2; emit 5; }")
		goes(t, m, 0, 0, 0)
		shows(t, m, "1?1 0", "s0:-1 r0:0 s1:0 r1:1", "0/0[] 1/1[1]", "", "")
		stays(t, m, 0, 0)
		goes(t, m, 1, 0)
		if got := viewOf(m); got != want {
			t.Fatalf("%s: %+v, want %+v", does, got, want)
		}
		goes(t, m, 0)
		tells(t, m, "", "5")
	}
}

// P19.2: the send of an end waits as well; the end is where it was till then.
func TestSendOfAnEndWaits(t *testing.T) {
	m := begunMain(t, "chan a b recv int 1; chan c d int 1; send a d; send a in; emit 5;", 3)
	goes(t, m, 0, 0, 0)
	shows(t, m, "0?1", "s0:-1 r0:0 s1:0 r1:0 s2:0 r2:*", "0/0[3] 1/1[e5] 1/1[]", "", "")
	stays(t, m, 0)
	if x, how := m.Take(3, 0); x != (api.Item{End: 5}) || how != 1 {
		t.Fatalf("Take: %v %d", x, how)
	}
	goes(t, m, 0, 0)
	shows(t, m, "0", "s0:-1 r0:* s1:0 r1:0 s2:0 r2:0", "0/0[3] 1/1[e1] 1/1[]", "", "5")
}
