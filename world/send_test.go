package world

import "testing"

// P17.3: InSend: E stands behind all others; where the channel is full, the task
// waits, and nothing changes.
func TestSend(t *testing.T) {
	w := begun(t, code(proc("ri si ri i", 1, "chan 1 2 x2; let 3 5; send 1 v3,2,*; send 1 v3; send 1 7; emit 1")))
	goes(t, w, 0, 0, 0)
	shows(t, w, "0@3", "s0:-1 r0:0 s1:0 r1:0", "0/0[] 2/1[10]", "", "")
	goes(t, w, 0)
	shows(t, w, "0@4?1", "s0:-1 r0:0 s1:0 r1:0", "0/0[] 2/1[10,5]", "", "")
	stays(t, w, 0, 0)
	w.Take(3, 0)
	goes(t, w, 0)
	shows(t, w, "0@5", "s0:-1 r0:0 s1:0 r1:0", "0/0[] 2/1[5,7]", "", "")
}

// P17.3: through a channel that is gone it goes nowhere, and nobody waits.
func TestSendToNobody(t *testing.T) {
	w := begun(t, code(proc("ri si ri", 1, "chan 1 2 x1; send 1 4; abandon 2; send 1 5; send 1 6; close 1")))
	goes(t, w, 0, 0, 0, 0, 0)
	shows(t, w, "0@5", "s0:-1 r0:0 s1:0 r1:-1", "0/0[] 1/1[]-", "", "")
	goes(t, w, 0)
	shows(t, w, "0@6", "s0:-1 r0:0 s1:-1 r1:-1", "0/0[] 1/0[]-", "", "")
}

// P17.3: one that waits goes on as another one takes, or lets go of it.
func TestSendWaitsForAnother(t *testing.T) {
	sender := proc("si", 1, "send 0 1; send 0 2; send 0 3")
	for _, x := range []struct {
		does        string
		picks       []int
		ends, chans string
	}{
		{"take 2 1 :0", l(1), "s0:-1 r0:0 s1:1 r1:0", "0/0[] 1/1[2]"},
		{"drain 1", l(1), "s0:-1 r0:0 s1:1 r1:0", "0/0[] 1/1[2]"},
		{"abandon 1", l(1, 1), "s0:-1 r0:0 s1:1 r1:-1", "0/0[] 1/1[]-"},
	} {
		w := begun(t, code(sender, proc("ri ri i si", 1, "chan 3 1 x1; spawn 0 #3; "+x.does)))
		goes(t, w, 0, 0, 1)
		shows(t, w, "1@2 0@1?1", "s0:-1 r0:0 s1:1 r1:0", "0/0[] 1/1[1]", "", "")
		stays(t, w, 1)
		goes(t, w, 0)
		goes(t, w, x.picks...)
		if got := viewOf(w); got.ends != x.ends || got.chans != x.chans || got.events != "" {
			t.Errorf("%s: %+v", x.does, got)
		}
	}
}

// P17.3: InGive: B's end lies in A's channel then; it stays in the variable.
func TestGive(t *testing.T) {
	w := begun(t, code(proc("ri sri rri", 1, "chan 1 2 x2; give 1 0; drain 0; give 1 0")))
	goes(t, w, 0, 0)
	shows(t, w, "0@2", "s0:-1 r0:* s1:0 r1:0", "0/0[] 2/1[e1]", "", "")
	goes(t, w, 0, 0)
	shows(t, w, "0@4", "s0:-1 r0:* s1:0 r1:0", "0/0[] 2/1[e1]", "owner:0@102:1 moved:0@103:1", "")
}

// P17.3: InGive waits for A, where that is full; to nobody its end is dropped,
// with what lies in its channel.
func TestGiveWaits(t *testing.T) {
	w := begun(t, code(proc("ri sri rri si ri", 1, "chan 1 2 x1; chan 3 4; give 1 4; give 1 0; emit 1")), 5)
	goes(t, w, 0, 0, 0)
	shows(t, w, "0@3?1", "s0:-1 r0:0 s1:0 r1:0 s2:0 r2:*", "0/0[5] 1/1[e5] 1/1[]", "", "")
	stays(t, w, 0)
	w.Drop(3)
	shows(t, w, "0@3", "s0:-1 r0:0 s1:0 r1:-1 s2:0 r2:-1", "0/0[5] 1/1[]- 1/1[]-", "", "")
	goes(t, w, 0)
	shows(t, w, "0@4", "s0:-1 r0:-1 s1:0 r1:-1 s2:0 r2:-1", "0/0[]- 1/1[]- 1/1[]-", "", "")
}

// P17.3: an end that came back is the task's again, in each variable that has it.
func TestGiveAndTakeBack(t *testing.T) {
	w := begun(t, code(proc("ri sri rri ri", 1, "chan 1 2 x1; give 1 0; take 3 2 :0; drain 0; drain 3; abandon 3")), 5)
	goes(t, w, 0, 0, 0)
	shows(t, w, "0@3", "s0:-1 r0:0 s1:0 r1:0", "0/0[5] 1/1[]", "", "")
	goes(t, w, 0, 0, 0, 0)
	shows(t, w, "0@6", "s0:-1 r0:-1 s1:0 r1:0", "0/0[]- 1/1[]", "twice:0@104:1 twice:0@105:1", "")
}
