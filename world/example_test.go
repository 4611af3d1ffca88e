package world

import (
	"slices"
	"testing"
)

// The chapter's example: 0, 1, 2, 0, 3, 4, 5 are done, and 7 is emitted.
func TestExample(t *testing.T) {
	w := begun(t, lowered(t, "stage main(in recv int) { for x from in { emit x; } drain in; }"), 7)
	shows(t, w, "0@0", "s0:-1 r0:0", "0/0[7]", "", "")
	var done []int
	for w.At(0) >= 0 {
		done = append(done, w.At(0))
		if silent := slices.Contains(l(2, 4), w.At(0)); w.Silent(0) != silent {
			t.Errorf("Silent at %d: %v", w.At(0), !silent)
		}
		goes(t, w, 0)
	}
	if !slices.Equal(done, l(0, 1, 2, 0, 3, 4, 5)) {
		t.Errorf("done are %v", done)
	}
	shows(t, w, "0!", "s0:-1 r0:-1", "0/0[]-", "", "7")
	stays(t, w, 0, 1)
}

// The document's: the second close uses what is gone.
func TestClosedTwice(t *testing.T) {
	w := begun(t, lowered(t, "stage main(in recv int) { chan s r int 1; close s; close s; drain r; drain in; }"))
	runs(t, w)
	shows(t, w, "0!", "s0:-1 r0:-1 s1:-1 r1:-1", "0/0[]- 1/0[]-", "twice:0@51:2", "")
}

// The document's: of a stage that sends each of 3 numbers twice, 6 go through.
func TestSentTwice(t *testing.T) {
	w := begun(t, lowered(t, `stage twice(a recv int, b send int) { for x from a { repeat 2 { send b x; } } drain a; close b; }
stage main(in recv int) { chan s r int 1; spawn twice(in, s); for x from r { emit x; } drain r; }`), 4, -5, 6)
	runs(t, w)
	shows(t, w, "1! 0!", "s0:-1 r0:-1 s1:-1 r1:-1", "0/0[]- 1/0[]-", "", "4 4 -5 -5 6 6")
}

// The document's: an end that is sent through a channel whose end to receive is
// dropped is dropped with it.
func TestSentAndDropped(t *testing.T) {
	ahead := begun(t, lowered(t, "stage main(in recv int) { chan a b recv int 2; abandon b; send a in; close a; }"))
	behind := begun(t, lowered(t, "stage main(in recv int) { chan a b recv int 2; send a in; abandon b; close a; }"))
	for _, w := range []*World{ahead, behind} {
		runs(t, w)
		shows(t, w, "0!", "s0:-1 r0:-1 s1:-1 r1:-1", "0/0[]- 2/0[]-", "", "")
	}
}

// The document's: two stages that send to one another may have to wait for each
// other, and nobody goes on.
func TestStuck(t *testing.T) {
	w := begun(t, lowered(t, `stage f(a recv int, b send int) { for x from a { send b x; } drain a; close b; }
stage main(in recv int) { chan s r int 1; chan u v int 1; spawn f(r, u); spawn f(v, s); drain in; }`))
	runs(t, w)
	shows(t, w, "1! 0@0?1 0@0?2", "s0:-1 r0:-1 s1:2 r1:1 s2:1 r2:2", "0/0[]- 1/1[] 1/1[]", "", "")
	stays(t, w, 0, 1, 2)
}
