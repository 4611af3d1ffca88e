package mean

import "testing"

// P19, as its code: what a block bound is out of use behind it: where it is come
// to again, and a clone goes wrong, its name has no end, not the one that it had
// the time before.
func TestOutOfUse(t *testing.T) {
	for does, events := range map[string]string{
		"chan a b int 5; repeat 2 { clone z a; close z; close a; }":                              "gone:0@102:2 none:0@103:-1 twice:0@104:2",
		"chan a b int 5; repeat 2 { clone z a; send z 1; close a; }":                             "gone:0@102:2 none:0@103:-1 twice:0@104:2",
		"chan a b int 5; repeat 2 { if 1 { clone z a; clone y z; } close a; }":                   "gone:0@103:2 none:0@104:-1 twice:0@105:2",
		"chan a b int 5; repeat 2 { if 0 { } else { clone z a; close z; close z; } close a; }":   "twice:0@105:4 gone:0@103:2 none:0@104:-1 none:0@105:-1 twice:0@106:2",
		"chan a b int 5; repeat 3 { close a; clone z a; close z; }":                              "gone:0@103:2 none:0@104:-1 twice:0@102:2 gone:0@103:2 none:0@104:-1 twice:0@102:2 gone:0@103:2 none:0@104:-1",
		"chan a b int 5; repeat 2 { take x from in { clone z a; close z; } close a; }":           "gone:0@103:2 none:0@104:-1 twice:0@105:2",
		"chan a b int 5; for x from in { repeat 1 { clone z a; close z; } close a; }":            "gone:0@103:2 none:0@104:-1 twice:0@105:2",
		"chan a b int 5; repeat 2 { clone z a; clone y z; close z; close y; close a; }":          "gone:0@102:2 none:0@103:-1 none:0@104:-1 none:0@105:-1 twice:0@106:2",
		"chan a b int 5; for x from in { clone z a; repeat x { close z; } close a; }":            "gone:0@102:2 none:0@104:-1 none:0@104:-1 twice:0@105:2",
		"chan a b int 5; chan c d send int 5; repeat 2 { clone z a; send c z; close a; }":        "gone:0@103:2 none:0@104:-1 twice:0@105:2",
		"chan a b int 5; repeat 2 { repeat 2 { clone z a; close z; } close a; }":                 "gone:0@103:2 none:0@104:-1 gone:0@103:2 none:0@104:-1 twice:0@105:2",
		"chan a b int 5; repeat 2 { take y from in { } else { } clone z a; close z; close a; } ": "gone:0@103:2 none:0@104:-1 twice:0@105:2",
	} {
		m := begunMain(t, does, 1, 2)
		runs(t, m)
		got := m.Events()
		for len(got) > 0 && got[len(got)-1].At == 900 { // what is left behind is no matter here
			got = got[:len(got)-1]
		}
		if told := toldEvents(got); told != events {
			t.Errorf("%s: %q, want %q", does, told, events)
		}
	}
}

// P19: what a block around bound stays in use.
func TestInUse(t *testing.T) {
	m := begunMain(t, "let n = 1; chan a b int 5; repeat 2 { if n { clone z a; repeat 2 { send z n; set n = n + 1; if 1 { send a n; } } close z; } } close a; for x from b { emit x; } emit n; drain b; drain in;")
	runs(t, m)
	tells(t, m, "", "")
	if x := toldTasks(m); x != "0?1" {
		t.Fatal(x) // the channel is full behind five
	}
	m = begunMain(t, "let n = 1; chan a b int 5; repeat 2 { if n { clone z a; repeat 1 { send z n; set n = n + 1; if 1 { send a n; } } close z; } } close a; for x from b { emit x; } emit n; drain b; drain in;")
	runs(t, m)
	shows(t, m, "0!", "s0:-1 r0:-1 s1:-1 r1:-1 s1:-1 s1:-1", "0/0[]- 5/0[]-", "", "1 2 2 3 3")
}

// P19: a name that is bound anew each time: a new channel, a new number, a new
// item.
func TestBoundAnew(t *testing.T) {
	m := begunMain(t, "let k = 0; repeat 3 { let n = k; chan a b int 1; send a n; set n = 50; close a; for x from b { emit x; set x = 60; } drain b; set k = k + n; } drain in;")
	runs(t, m)
	shows(t, m, "0!", "s0:-1 r0:-1 s1:-1 r1:-1 s2:-1 r2:-1 s3:-1 r3:-1", "0/0[]- 1/0[]- 1/0[]- 1/0[]-", "", "0 50 100")
}

// P19: names of one stage are no names of another one, and each task has its own.
func TestNamesOfEachTask(t *testing.T) {
	m := begun(t, `stage f(n int, a recv int) { let k = n * 2; for x from a { emit x + k; set k = k + 1; } drain a; }
stage main(in recv int) {
	let n = 1;
	chan a k int 5;
	chan x f int 5;
	spawn f(n, k);
	spawn f(n + 10, f);
	send a 100;
	send x 200;
	send a 300;
	send x 400;
	close a;
	close x;
	drain in;
	emit n;
}`)
	goesOn(t, m, 0, 13)
	goes(t, m, 1, 2, 1, 2, 1, 2, 1, 2, 1, 2, 1, 2, 1, 2)
	tells(t, m, "", "1 102 222 303 423")
	runs(t, m)
	shows(t, m, "1! 0! 0!", "s0:-1 r0:-1 s1:-1 r1:-1 s2:-1 r2:-1", "0/0[]- 5/0[]- 5/0[]-", "", "1 102 222 303 423")
}

// P19: stages and names may have the same names.
func TestNamesOfStages(t *testing.T) {
	m := begun(t, "stage x(main int) { let x = main + 1; emit x; } stage main(main recv int) { for x from main { spawn x(x); } drain main; }", 5, 6)
	runs(t, m)
	shows(t, m, "1! 0! 0!", "s0:-1 r0:-1", "0/0[]-", "", "6 7")
}

// P19: an end is in the name that it was sent from, too; whether it is the task's
// the ledger tells.
func TestNameStays(t *testing.T) {
	m := begunMain(t, "chan a b recv int 1; send a in; drain in; take r from b { drain in; drain r; } emit 1;", 8)
	runs(t, m)
	shows(t, m, "0!", "s0:-1 r0:-1 s1:0 r1:0", "0/0[]- 1/1[]", "owner:0@102:1 twice:0@105:1 leak:0@900:2 leak:0@900:3", "1")
}
