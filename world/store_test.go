package world

import (
	"math"
	"slices"
	"testing"

	"pipewright/api"
	"pipewright/chans"
	"pipewright/ledger"
)

// The Store's calls, and its ledger's, are a World's own, too; and it is the
// store that tasks use.
func TestStoresCalls(t *testing.T) {
	w := begun(t, code(proc("ri si ri i", 1, "chan 1 2 x1; send 1 5; take 3 0 :0; emit v3")))
	goes(t, w, 0, 0)
	var own *chans.Store = w.Store
	if !slices.Equal(own.All(), w.All()) || toldChans(own.Chans()) != toldChans(w.Chans()) {
		t.Fatal("the store tells something else than the world")
	}
	if !w.Waits(2) || w.Waits(3) || w.Waits(-1) {
		t.Error("Waits")
	}
	if list := w.Of(0); !slices.Equal(list, l(1, 2, 3)) {
		t.Errorf("Of(0): %v", list)
	}
	if list := w.Of(api.HomeDropped); !slices.Equal(list, l(0)) {
		t.Errorf("Of dropped ones: %v", list)
	}
	if e, ok := w.End(3); !ok || e != (api.End{Chan: 1, Home: 0}) {
		t.Errorf("End(3): %v %v", e, ok)
	}
	if kind := w.Use(2, 1, ledger.Drops); kind != api.EventOwner {
		t.Errorf("Use: %d", kind)
	}
	if x, how := w.Take(3, 4); x != (api.Item{N: 5, End: -1}) || how != 1 {
		t.Errorf("Take: %v %d", x, how)
	}
	if e := w.Clone(2, 0); e != 4 {
		t.Errorf("Clone: %d", e)
	}
	if a, b := w.Make(3, 7); a != 5 || b != 6 {
		t.Errorf("Make: %d %d", a, b)
	}
	if !w.Put(2, api.Item{End: 6}) || !w.Drop(3) || w.Drop(3) {
		t.Error("Put, Drop")
	}
	shows(t, w, "0@2", "s0:-1 r0:0 s1:0 r1:-2 s1:0 s2:7 r2:-1", "0/0[] 1/2[]- 3/1[]-", "", "")
}

// What others do to the store tasks see: an end that was dropped, one more that
// is left behind, an item that was taken.
func TestStepsSeeTheStore(t *testing.T) {
	w := begun(t, code(proc("", 0, ""), proc("ri i", 1, "take 1 0 :4; emit v1; spawn 0; drain 0")), 5, 6, 7)
	w.Take(1, 9)
	goes(t, w, 0, 0, 0)
	w.Make(2, 1)
	w.Drop(1)
	goes(t, w, 0, 1)
	shows(t, w, "1@4 0!", "s0:-1 r0:-1 s1:1 r1:1", "0/0[]- 2/1[]", "twice:0@103:1 leak:1@100:2 leak:1@100:3", "6")
}

// A task that waits goes on as others put or take; it waits as they do.
func TestWaitsSeeTheStore(t *testing.T) {
	w := begun(t, code(proc("ri si ri i", 1, "chan 1 2 x1; take 3 2 :2; send 1 8; emit v3")))
	goes(t, w, 0)
	stays(t, w, 0)
	w.Put(2, aNumber(4))
	shows(t, w, "0@1", "s0:-1 r0:0 s1:0 r1:0", "0/0[] 1/1[4]", "", "")
	goes(t, w, 0)
	w.Put(2, aNumber(5))
	shows(t, w, "0@2?1", "s0:-1 r0:0 s1:0 r1:0", "0/0[] 1/1[5]", "", "")
	stays(t, w, 0)
	w.Drop(3)
	goes(t, w, 0, 0)
	shows(t, w, "0@4", "s0:-1 r0:0 s1:0 r1:-1", "0/0[] 1/1[]-", "", "4")
}

// Ends of the other kind than their variables, which others put there: what the
// store refuses is not done, and the task goes on; it waits for what the store
// says.
func TestEndsOfTheOtherKind(t *testing.T) {
	w := begun(t, code(proc("ri ssi rsi si sri rri ri i si ri", 1, "chan 1 2 x5; chan 4 5 x5; chan 8 9; take 3 2 :0; take 0 5 :0; send 3 1; take 7 0 :8; emit 1; drain 0; send 3 2")), 3)
	goes(t, w, 0, 0, 0)
	w.Put(2, anEnd(7)) // where ends to send should come, one to receive
	w.Put(4, anEnd(6)) // and the other way round
	goes(t, w, 0, 0)
	shows(t, w, "0@5?3", "s0:-1 r0:0 s1:0 r1:0 s2:0 r2:0 s3:0 r3:0", "0/0[3] 5/1[] 5/1[] 1/1[]", "", "")
	w.Put(6, aNumber(4))
	goes(t, w, 0)
	shows(t, w, "0@6?3", "s0:-1 r0:0 s1:0 r1:0 s2:0 r2:0 s3:0 r3:0", "0/0[3] 5/1[] 5/1[] 1/1[4]", "", "")
	w.Take(7, 0)
	goes(t, w, 0)
	shows(t, w, "0@8", "s0:-1 r0:0 s1:0 r1:0 s2:0 r2:0 s3:0 r3:0", "0/0[3] 5/1[] 5/1[] 1/1[]", "", "")
	goes(t, w, 0)
	shows(t, w, "0@9", "s0:-1 r0:0 s1:0 r1:0 s2:0 r2:0 s3:-1 r3:0", "0/0[3] 5/1[] 5/1[] 1/0[]", "", "")
	goes(t, w, 0)
	shows(t, w, "0@10", "s0:-1 r0:0 s1:0 r1:0 s2:0 r2:0 s3:-1 r3:0", "0/0[3] 5/1[] 5/1[] 1/0[]", "", "")
}

// An end that others brought about to be A's and B's of an InGive: nothing is
// wrong, but the store refuses it; and it waits as any other one.
func TestGiveOfItself(t *testing.T) {
	w := begun(t, code(proc("ri ssi rsi ssi rsi si", 1, "chan 1 2 x1; chan 3 4 x1; take 5 4 :0; give 1 5; give 1 5; emit 1")))
	goes(t, w, 0, 0)
	w.Put(4, anEnd(2))
	goes(t, w, 0, 0)
	shows(t, w, "0@4", "s0:-1 r0:0 s1:0 r1:0 s2:0 r2:0", "0/0[] 1/1[] 1/1[]", "", "")
	w.Put(2, aNumber(6))
	shows(t, w, "0@4?1", "s0:-1 r0:0 s1:0 r1:0 s2:0 r2:0", "0/0[] 1/1[6] 1/1[]", "", "")
	stays(t, w, 0)
	w.Drop(3)
	goes(t, w, 0)
	shows(t, w, "0@5", "s0:-1 r0:0 s1:0 r1:-1 s2:0 r2:0", "0/0[] 1/1[]- 1/1[]", "", "")
}

// P1: of a world whose Born, Move or Gone somebody called little is promised, but
// no call panics, and every call ends.
func TestForeignEnds(t *testing.T) {
	numbers := l(math.MinInt, -3, -2, -1, 0, 1, 2, 3, 4, 5, 6, 7, 1<<32, math.MaxInt)
	w := newWriter(17)
	for range 3000 {
		x := begun(t, w.code(25), w.inputs()...)
		for range 80 {
			switch e, n := w.Intn(12)-1, pick(w, numbers); w.Intn(9) {
			case 0:
				x.Born(n, w.Intn(2) == 0, w.Intn(4)-2)
			case 1:
				x.Move(e, n)
			case 2:
				x.Gone(e)
			case 3:
				x.Put(e, api.Item{End: n})
			default:
				x.Step(w.pickOf(x.Tasks()))
			}
		}
		viewOf(x)
	}
}
