package world

import (
	"fmt"
	"testing"

	"pipewright/api"
)

// P17.3: InChan: a new channel of N slots, and its ends, this task's; what the
// variables had is not dropped.
func TestChan(t *testing.T) {
	for n := 1; n <= api.MaxSlots; n++ {
		w := begun(t, code(proc("ri si ri", 1, fmt.Sprintf("chan 1 2 x%d; chan 1 2 x%d; close 1; abandon 2", n, n))))
		goes(t, w, 0)
		shows(t, w, "0@1", "s0:-1 r0:0 s1:0 r1:0", fmt.Sprintf("0/0[] %d/1[]", n), "", "")
		goes(t, w, 0)
		shows(t, w, "0@2", "s0:-1 r0:0 s1:0 r1:0 s2:0 r2:0", fmt.Sprintf("0/0[] %d/1[] %d/1[]", n, n), "", "")
		goes(t, w, 0, 0)
		shows(t, w, "0@4", "s0:-1 r0:0 s1:0 r1:0 s2:-1 r2:-1", fmt.Sprintf("0/0[] %d/1[] %d/0[]-", n, n), "", "")
	}
}

// P17.3: InChan of another task than the first: the ends are its own.
func TestChanOfAnother(t *testing.T) {
	w := begun(t, code(proc("si ri", 0, "chan 0 1 x3"), proc("ri", 1, "spawn 0; spawn 0")))
	goes(t, w, 0, 0, 2, 1)
	shows(t, w, "1@2 0@1 0@1", "s0:-1 r0:0 s1:2 r1:2 s2:1 r2:1", "0/0[] 3/1[] 3/1[]", "", "")
}

// P17.3: InClone: one more end to send, like B's, this task's.
func TestClone(t *testing.T) {
	w := begun(t, code(proc("ri si ri si", 1, "chan 1 2 x1; clone 3 1; close 1; send 3 5; clone 1 3; close 3; close 1")))
	goes(t, w, 0, 0)
	shows(t, w, "0@2", "s0:-1 r0:0 s1:0 r1:0 s1:0", "0/0[] 1/2[]", "", "")
	goes(t, w, 0, 0)
	shows(t, w, "0@4", "s0:-1 r0:0 s1:-1 r1:0 s1:0", "0/0[] 1/1[5]", "", "")
	goes(t, w, 0, 0, 0)
	shows(t, w, "0@7", "s0:-1 r0:0 s1:-1 r1:0 s1:-1 s1:-1", "0/0[] 1/0[5]", "", "")
}

// P17.3: InClone of what is another one's: A stays what it was.
func TestCloneOfAnother(t *testing.T) {
	w := begun(t, code(proc("si", 1, ""), proc("ri si ri si ri", 1, "chan 3 4; chan 1 2; spawn 0 #1; clone 3 1; close 3")))
	goesTo(t, w, 0, 5)
	shows(t, w, "1@5 0@0", "s0:-1 r0:0 s1:-1 r1:0 s2:1 r2:0", "0/0[] 1/0[] 1/1[]", "moved:0@103:4", "")
}

// P17.3: a Clone that Store refuses (of an end to receive that came where ends
// to send should): A has no end then.
func TestCloneOfNoSend(t *testing.T) {
	w := begun(t, code(proc("ri ssi rsi si si ri", 1, "chan 1 2 x5; chan 4 5; take 3 2 :0; clone 4 3; close 4; close 3")))
	goes(t, w, 0, 0)
	w.Put(2, anEnd(1))
	goes(t, w, 0, 0, 0, 0)
	shows(t, w, "0@6", "s0:-1 r0:-1 s1:0 r1:0 s2:0 r2:0", "0/0[]- 5/1[] 1/1[]", "none:0@104:-1", "")
}

// P17.3: InClose, InAbandon: the end is dropped; with one to receive its items
// go, and ends among them.
func TestDropped(t *testing.T) {
	w := begun(t, code(proc("ri si ri sri rri", 1, "chan 1 2 x2; chan 3 4 x2; send 1 5; close 1; give 3 0; give 3 2; abandon 4; close 3")), 3)
	goesTo(t, w, 0, 6)
	shows(t, w, "0@6", "s0:-1 r0:* s1:-1 r1:* s2:0 r2:0", "0/0[3] 2/0[5] 2/1[e1,e3]", "", "")
	goes(t, w, 0)
	shows(t, w, "0@7", "s0:-1 r0:-1 s1:-1 r1:-1 s2:0 r2:-1", "0/0[]- 2/0[]- 2/1[]-", "", "")
	goes(t, w, 0)
	shows(t, w, "0@8", "s0:-1 r0:-1 s1:-1 r1:-1 s2:-1 r2:-1", "0/0[]- 2/0[]- 2/0[]-", "", "")
}

// P17.3: InOver: the variable has no end any more; what becomes of the end is no
// matter there.
func TestOver(t *testing.T) {
	w := begun(t, code(proc("ri", 1, "over 0; over 0; drain 0")), 3)
	goes(t, w, 0, 0)
	shows(t, w, "0@2", "s0:-1 r0:0", "0/0[3]", "", "")
	goes(t, w, 0, 0)
	shows(t, w, "0!", "s0:-1 r0:0", "0/0[3]", "none:0@102:-1 leak:0@103:1", "")
}

// P17.3: InExit: each end whose home is this task is left behind, rising, at the
// place of the instruction; the task is over.
func TestExit(t *testing.T) {
	stages := []api.Proc{proc("si", 1, ""), proc("ri", 1, "")}
	for _, x := range []struct{ said, ends, events string }{
		{"drain 0", "r0:-1", ""},
		{"", "r0:0", "leak:0@100:1"},
		{"chan 1 2; drain 0", "r0:-1 s1:0 r1:0", "leak:0@102:2 leak:0@102:3"},
		{"chan 1 2; clone 3 1; close 1", "r0:0 s1:-1 r1:0 s1:0", "leak:0@103:1 leak:0@103:3 leak:0@103:4"},
		{"chan 1 2; spawn 0 #1", "r0:0 s1:1 r1:0", "leak:0@102:1 leak:0@102:3"},
		{"chan 4 5; give 4 0; chan 1 2; close 4", "r0:* s1:-1 r1:0 s2:0 r2:0", "leak:0@104:3 leak:0@104:4 leak:0@104:5"},
		{"chan 1 2; over 1; over 2; over 0", "r0:0 s1:0 r1:0", "leak:0@104:1 leak:0@104:2 leak:0@104:3"},
	} {
		w := begun(t, code(append(stages, proc("ri si ri si sri rri", 1, x.said))...))
		for w.At(0) >= 0 {
			goes(t, w, 0)
		}
		if got := viewOf(w); got.ends != "s0:-1 "+x.ends || got.events != x.events {
			t.Errorf("%s: %+v, want %v", x.said, got, x)
		}
		if w.Task(0) != (api.Task{Stage: 2, State: api.TaskOver, Wait: -1}) {
			t.Errorf("%s: %v", x.said, w.Task(0))
		}
		stays(t, w, 0, 0)
	}
}

// P17.3: what is left behind is another one's then: nobody uses it rightly, and
// those who wait for it go on waiting.
func TestExitAndOthers(t *testing.T) {
	w := begun(t, code(proc("ri i", 1, "take 1 0 :2; emit v1"), proc("ri si ri", 1, "chan 1 2; spawn 0 #2; exit; emit 3")))
	goes(t, w, 0, 0, 0)
	shows(t, w, "1! 0@0?1", "s0:-1 r0:0 s1:0 r1:1", "0/0[] 1/1[]", "leak:0@102:1 leak:0@102:2", "")
	stays(t, w, 1, 0)
}

// P17.3: an InExit that is not the last instruction is one, too.
func TestExitInTheMiddle(t *testing.T) {
	w := begun(t, code(proc("ri", 1, "drain 0; jump :3; emit 4; exit; emit 5")))
	runs(t, w)
	shows(t, w, "0!", "s0:-1 r0:-1", "0/0[]-", "", "")
}
