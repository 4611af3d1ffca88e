package mean

import (
	"math"
	"slices"
	"testing"

	"pipewright/api"
	"pipewright/chans"
	"pipewright/ledger"
)

// The Store's calls, and its ledger's, are a Mean's own, too; and it is the store
// that tasks use.
func TestStoresCalls(t *testing.T) {
	m := begunMain(t, "chan a b int 1; send a 5; take x from b { emit x; }")
	goes(t, m, 0, 0)
	var own *chans.Store = m.Store
	if !slices.Equal(own.All(), m.All()) || toldChans(own.Chans()) != toldChans(m.Chans()) {
		t.Fatal("the store tells something else than the mean")
	}
	if !m.Waits(2) || m.Waits(3) || m.Waits(-1) {
		t.Error("Waits")
	}
	if list := m.Of(0); !slices.Equal(list, []int{1, 2, 3}) {
		t.Errorf("Of(0): %v", list)
	}
	if list := m.Of(api.HomeDropped); !slices.Equal(list, []int{0}) {
		t.Errorf("Of dropped ones: %v", list)
	}
	if e, ok := m.End(3); !ok || e != (api.End{Chan: 1, Home: 0}) {
		t.Errorf("End(3): %v %v", e, ok)
	}
	if kind := m.Use(2, 1, ledger.Drops); kind != api.EventOwner {
		t.Errorf("Use: %d", kind)
	}
	if x, how := m.Take(3, 4); x != (api.Item{N: 5, End: -1}) || how != 1 {
		t.Errorf("Take: %v %d", x, how)
	}
	if e := m.Clone(2, 0); e != 4 {
		t.Errorf("Clone: %d", e)
	}
	if a, b := m.Make(3, 7); a != 5 || b != 6 {
		t.Errorf("Make: %d %d", a, b)
	}
	if !m.Put(2, api.Item{End: 6}) || !m.Drop(3) || m.Drop(3) {
		t.Error("Put, Drop")
	}
	shows(t, m, "0", "s0:-1 r0:0 s1:0 r1:-2 s1:0 s2:7 r2:-1", "0/0[] 1/2[]- 3/1[]-", "", "")
}

// What others do to the store tasks see: an end that was dropped, one more that
// is left behind, an item that was taken.
func TestDeedsSeeTheStore(t *testing.T) {
	m := begun(t, "stage f() { } stage main(in recv int) { take x from in { emit x; } spawn f(); drain in; }", 5, 6, 7)
	m.Take(1, 9)
	goes(t, m, 0, 0, 0)
	m.Make(2, 1)
	m.Drop(1)
	goes(t, m, 0, 1, 0)
	shows(t, m, "1! 0!", "s0:-1 r0:-1 s1:1 r1:1", "0/0[]- 2/1[]", "twice:0@103:1 leak:1@900:2 leak:1@900:3", "6")
}

// A task that waits goes on as others put or take; it waits as they do.
func TestWaitsSeeTheStore(t *testing.T) {
	m := begunMain(t, "chan a b int 1; for x from b { send a 8; emit x; }")
	goes(t, m, 0)
	stays(t, m, 0)
	m.Put(2, aNumber(4))
	shows(t, m, "0", "s0:-1 r0:0 s1:0 r1:0", "0/0[] 1/1[4]", "", "")
	goes(t, m, 0)
	m.Put(2, aNumber(5))
	shows(t, m, "0?1", "s0:-1 r0:0 s1:0 r1:0", "0/0[] 1/1[5]", "", "")
	stays(t, m, 0)
	m.Drop(3)
	goes(t, m, 0, 0)
	shows(t, m, "0", "s0:-1 r0:0 s1:0 r1:-1", "0/0[] 1/1[]-", "", "4")
	goes(t, m, 0)
	tells(t, m, "gone:0@101:3", "4")
}

// Ends of the other kind than their names, which others put there: what the store
// refuses is not done, and the task goes on; it waits for what the store says.
func TestEndsOfTheOtherKind(t *testing.T) {
	m := begunMain(t, "chan a b send int 5; chan c d recv int 5; chan k l int 1; take s from b { take r from d { send s 1; take x from r { } else { emit 1; } drain r; emit 2; } }", 3)
	goes(t, m, 0, 0, 0)
	m.Put(2, anEnd(7)) // where ends to send should come, one to receive
	m.Put(4, anEnd(6)) // and the other way round
	goes(t, m, 0, 0)
	shows(t, m, "0?3", "s0:-1 r0:0 s1:0 r1:0 s2:0 r2:0 s3:0 r3:0", "0/0[3] 5/1[] 5/1[] 1/1[]", "", "")
	m.Put(6, aNumber(4))
	goes(t, m, 0)
	shows(t, m, "0?3", "s0:-1 r0:0 s1:0 r1:0 s2:0 r2:0 s3:0 r3:0", "0/0[3] 5/1[] 5/1[] 1/1[4]", "", "")
	m.Take(7, 0)
	goes(t, m, 0, 0)
	shows(t, m, "0", "s0:-1 r0:0 s1:0 r1:0 s2:0 r2:0 s3:0 r3:0", "0/0[3] 5/1[] 5/1[] 1/1[]", "", "1")
	goes(t, m, 0)
	shows(t, m, "0", "s0:-1 r0:0 s1:0 r1:0 s2:0 r2:0 s3:-1 r3:0", "0/0[3] 5/1[] 5/1[] 1/0[]", "", "1")
	goes(t, m, 0)
	tells(t, m, "", "1 2")
}

// An end that others brought about to be sent through itself: nothing is wrong,
// but the store refuses it; and it waits as any other one.
func TestSendOfItself(t *testing.T) {
	m := begunMain(t, "chan a b send int 1; chan c d send int 1; take s from d { send a s; send a s; emit 1; }")
	goes(t, m, 0, 0)
	m.Put(4, anEnd(2))
	goes(t, m, 0, 0)
	shows(t, m, "0", "s0:-1 r0:0 s1:0 r1:0 s2:0 r2:0", "0/0[] 1/1[] 1/1[]", "", "")
	m.Put(2, aNumber(6))
	shows(t, m, "0?1", "s0:-1 r0:0 s1:0 r1:0 s2:0 r2:0", "0/0[] 1/1[6] 1/1[]", "", "")
	stays(t, m, 0)
	m.Drop(3)
	goes(t, m, 0, 0)
	shows(t, m, "0", "s0:-1 r0:0 s1:0 r1:-1 s2:0 r2:0", "0/0[] 1/1[]- 1/1[]", "", "1")
}

// P1: of a mean whose Born, Move or Gone somebody called little is promised, but
// no call panics, and every call ends.
func TestForeignEnds(t *testing.T) {
	numbers := []int{math.MinInt, -3, -2, -1, 0, 1, 2, 3, 4, 5, 6, 7, 1 << 32, math.MaxInt}
	a := newAuthor(61)
	for range 6000 {
		x := begunOf(t, a.program(), a.inputs()...)
		for range 80 {
			switch e, n := a.Intn(12)-1, pick(a, numbers); a.Intn(9) {
			case 0:
				x.Born(n, a.Intn(2) == 0, a.Intn(4)-2)
			case 1:
				x.Move(e, n)
			case 2:
				x.Gone(e)
			case 3:
				x.Put(e, api.Item{End: n})
			default:
				x.Step(a.pickOf(x.Tasks()))
			}
		}
		viewOf(x)
	}
}
