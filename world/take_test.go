package world

import (
	"fmt"
	"testing"
)

// P17.3: InTake of numbers: the first one, and on to the next instruction; none
// left: on to To, and the variable stays as it was.
func TestTakeNumbers(t *testing.T) {
	w := begun(t, code(proc("ri i", 1, "take 1 0 :4; emit v1; take 1 0 :4; emit v1; emit v1,100,+")), -3, 0)
	goes(t, w, 0)
	shows(t, w, "0@1", "s0:-1 r0:0", "0/0[0]", "", "")
	goes(t, w, 0, 0, 0)
	shows(t, w, "0@4", "s0:-1 r0:0", "0/0[]", "", "-3 0")
	w = begun(t, code(proc("ri i", 1, "let 1 8; take 1 0 :3; emit 1; emit v1")))
	goes(t, w, 0, 0)
	shows(t, w, "0@3", "s0:-1 r0:0", "0/0[]", "", "")
	goes(t, w, 0)
	shows(t, w, "0@4", "s0:-1 r0:0", "0/0[]", "", "8")
}

// P17.3: To may be any instruction: this one, one ahead, the last one.
func TestTakeTo(t *testing.T) {
	for to := range 4 {
		said := fmt.Sprintf("emit 5; take 1 0 :%d; emit 6", to)
		w := begun(t, code(proc("ri i", 1, said)), 3)
		goes(t, w, 0, 0)
		if w.At(0) != 2 {
			t.Errorf("with an item: at %d", w.At(0))
		}
		w = begun(t, code(proc("ri i", 1, said)))
		goes(t, w, 0, 0)
		if w.At(0) != to {
			t.Errorf("without one: at %d, want %d", w.At(0), to)
		}
	}
}

// P17.3: it waits while there are senders, and no items.
func TestTakeWaits(t *testing.T) {
	w := begun(t, code(proc("si", 1, "send 0 4; close 0"), proc("ri si ri i", 1, "chan 1 2 x1; spawn 0 #1; take 3 2 :5; emit v3; take 3 2 :5; emit 9")))
	goes(t, w, 0, 0)
	shows(t, w, "1@2?1 0@0", "s0:-1 r0:0 s1:1 r1:0", "0/0[] 1/1[]", "", "")
	stays(t, w, 0)
	goes(t, w, 1, 0, 0)
	shows(t, w, "1@4?1 0@1", "s0:-1 r0:0 s1:1 r1:0", "0/0[] 1/1[]", "", "4")
	stays(t, w, 0)
	goes(t, w, 1, 0)
	shows(t, w, "1@5 0@2", "s0:-1 r0:0 s1:-1 r1:0", "0/0[] 1/0[]", "", "4")
}

// P17.3: InTake of an end: it is the task's then.
func TestTakeEnds(t *testing.T) {
	w := begun(t, code(proc("rri ri i", 1, "take 1 0 :4; take 2 1 :4; emit v2; drain 1"), proc("ri sri rri", 1, "chan 1 2 x1; spawn 0 #2; give 1 0; close 1")), 7)
	goes(t, w, 0, 0, 0, 0)
	shows(t, w, "1@4 0@0", "s0:-1 r0:* s1:-1 r1:1", "0/0[7] 1/0[e1]", "", "")
	goes(t, w, 1)
	shows(t, w, "1@4 0@1", "s0:-1 r0:1 s1:-1 r1:1", "0/0[7] 1/0[]", "", "")
	goes(t, w, 1, 1, 1)
	shows(t, w, "1@4 0@4", "s0:-1 r0:-1 s1:-1 r1:1", "0/0[]- 1/0[]", "", "7")
}

// P17.3: a number that comes where ends should, and the other way round: the
// variable has what comes, and no end, or the number 0.
func TestTakeWhatDoesNotFit(t *testing.T) {
	w := begun(t, code(proc("ri sri rri i", 1, "chan 1 2 x5; take 0 2 :0; drain 0; take 0 2 :0; drain 0")), 7)
	goes(t, w, 0)
	w.Put(2, aNumber(4))
	w.Put(2, anEnd(1))
	goes(t, w, 0, 0)
	shows(t, w, "0@3", "s0:-1 r0:* s1:0 r1:0", "0/0[7] 5/1[e1]", "none:0@102:-1", "")
	goes(t, w, 0, 0, 0)
	shows(t, w, "0@5", "s0:-1 r0:-1 s1:0 r1:0", "0/0[]- 5/1[]", "none:0@102:-1", "")
	w = begun(t, code(proc("ri si ri i", 1, "chan 1 2 x5; let 3 6; take 3 2 :0; emit v3")), 7)
	goes(t, w, 0, 0)
	w.Put(2, anEnd(1))
	goes(t, w, 0, 0)
	shows(t, w, "0@4", "s0:-1 r0:0 s1:0 r1:0", "0/0[7] 5/1[]", "", "0")
}

// P17.3: InDrain: item by item, being the next one still; then the end goes.
func TestDrain(t *testing.T) {
	w := begun(t, code(proc("ri", 1, "drain 0; drain 0")), 4, 5)
	goes(t, w, 0)
	shows(t, w, "0@0", "s0:-1 r0:0", "0/0[5]", "", "")
	goes(t, w, 0)
	shows(t, w, "0@0", "s0:-1 r0:0", "0/0[]", "", "")
	goes(t, w, 0)
	shows(t, w, "0@1", "s0:-1 r0:-1", "0/0[]-", "", "")
	goes(t, w, 0)
	shows(t, w, "0@2", "s0:-1 r0:-1", "0/0[]-", "twice:0@101:1", "")
}

// P17.3: an end that it takes is dropped, with all that lies in its channel.
func TestDrainOfEnds(t *testing.T) {
	w := begun(t, code(proc("ri sri rri srri rrri si ri", 1, "chan 1 2 x1; chan 3 4 x2; chan 5 6 x1; give 1 0; give 3 2; close 3; drain 4; close 1")), 8, 9)
	goesTo(t, w, 0, 6)
	shows(t, w, "0@6", "s0:-1 r0:* s1:0 r1:* s2:-1 r2:0 s3:0 r3:0", "0/0[8,9] 1/1[e1] 2/0[e3] 1/1[]", "", "")
	goes(t, w, 0)
	shows(t, w, "0@6", "s0:-1 r0:-1 s1:0 r1:-1 s2:-1 r2:0 s3:0 r3:0", "0/0[]- 1/1[]- 2/0[] 1/1[]", "", "")
	goes(t, w, 0)
	shows(t, w, "0@7", "s0:-1 r0:-1 s1:0 r1:-1 s2:-1 r2:-1 s3:0 r3:0", "0/0[]- 1/1[]- 2/0[]- 1/1[]", "", "")
}

// P17.3: ends to send that it takes are senders less.
func TestDrainOfSends(t *testing.T) {
	w := begun(t, code(proc("ri ssi rsi si ri si", 1, "chan 1 2 x3; chan 3 4; clone 5 3; give 1 3; give 1 5; close 1; drain 2; drain 4")))
	goesTo(t, w, 0, 6)
	shows(t, w, "0@6", "s0:-1 r0:0 s1:-1 r1:0 s2:* r2:0 s2:*", "0/0[] 3/0[e4,e6] 1/2[]", "", "")
	goes(t, w, 0, 0)
	shows(t, w, "0@6", "s0:-1 r0:0 s1:-1 r1:0 s2:-1 r2:0 s2:-1", "0/0[] 3/0[] 1/0[]", "", "")
	goes(t, w, 0, 0)
	shows(t, w, "0@8", "s0:-1 r0:0 s1:-1 r1:-1 s2:-1 r2:-1 s2:-1", "0/0[] 3/0[]- 1/0[]-", "", "")
}

// P17.3: it waits while there are senders, and no items, and then goes on where
// it was.
func TestDrainWaits(t *testing.T) {
	w := begun(t, code(proc("si", 1, "send 0 4; send 0 5; close 0"), proc("ri si ri", 1, "chan 1 2 x1; spawn 0 #1; drain 2; emit 1")))
	goes(t, w, 0, 0)
	for n := range 2 {
		shows(t, w, fmt.Sprint("1@2?1 0@", n), "s0:-1 r0:0 s1:1 r1:0", "0/0[] 1/1[]", "", "")
		stays(t, w, 0)
		goes(t, w, 1, 0)
	}
	stays(t, w, 0)
	goes(t, w, 1)
	shows(t, w, "1@2 0@3", "s0:-1 r0:0 s1:-1 r1:0", "0/0[] 1/0[]", "", "")
	goes(t, w, 0, 0)
	shows(t, w, "1@4 0@3", "s0:-1 r0:0 s1:-1 r1:-1", "0/0[] 1/0[]-", "", "1")
}

// P17.3: an end that was dropped as it lay there is dropped once more.
func TestDrainOfDropped(t *testing.T) {
	w := begun(t, code(proc("ri sri rri", 1, "chan 1 2 x1; give 1 0; close 1; drain 2")))
	goes(t, w, 0, 0, 0)
	w.Drop(1)
	goes(t, w, 0)
	shows(t, w, "0@3", "s0:-1 r0:-2 s1:-1 r1:0", "0/0[]- 1/0[]", "", "")
}
