package mean

import (
	"slices"
	"strings"
	"testing"

	"pipewright/api"
)

// hands are stages that ends are spawned away to; they are never picked here.
const hands = "stage f(a send int) { } stage g(a recv int) { } stage ff(a send send int) { } stage three(a recv int, n int, b recv int, c recv int) { }\n"

// spot of an end that is not the task's: what brings it there, and the kinds of
// events, if something is sent through it, it is dropped, or used else.
type spot struct {
	ahead                 string
	through, drops, other int
}

// spotsOfSend are of s, to send, of a channel that is full.
func spotsOfSend() []spot {
	const ahead = "chan s r int 1; send s 5; "
	return []spot{
		{ahead + "close s;", api.EventSent, api.EventTwice, api.EventGone},
		{ahead + "close s; close s;", api.EventSent, api.EventTwice, api.EventGone},
		{ahead + "spawn f(s);", api.EventMoved, api.EventOwner, api.EventMoved},
		{ahead + "chan c d send int 1; send c s;", api.EventMoved, api.EventOwner, api.EventMoved},
		{ahead + "chan c d send int 1; send c s; abandon d;", api.EventSent, api.EventTwice, api.EventGone},
		{ahead + "chan c d send int 1; abandon d; send c s;", api.EventSent, api.EventTwice, api.EventGone},
		{"chan q r int 1; close q; clone s q;", api.EventNone, api.EventNone, api.EventNone},
		{"chan q r int 1; spawn f(q); clone s q;", api.EventNone, api.EventNone, api.EventNone},
		{"chan q r int 1; close q; clone p q; clone s p;", api.EventNone, api.EventNone, api.EventNone},
	}
}

// spotsOfRecv are of r, to receive.
func spotsOfRecv() []spot {
	return []spot{
		{"chan s r int 1; abandon r;", api.EventSent, api.EventTwice, api.EventGone},
		{"chan s r int 1; close s; drain r;", api.EventSent, api.EventTwice, api.EventGone},
		{"chan s r int 1; spawn g(r);", api.EventMoved, api.EventOwner, api.EventMoved},
		{"chan s r int 1; send s 5; spawn g(r);", api.EventMoved, api.EventOwner, api.EventMoved},
		{"chan s r int 1; chan c d recv int 1; send c r;", api.EventMoved, api.EventOwner, api.EventMoved},
		{"chan s r int 1; chan c d recv int 1; send c r; abandon d;", api.EventSent, api.EventTwice, api.EventGone},
	}
}

// endOf is the end that a name has in the first task.
func endOf(m *Mean, name string) int { return m.tasks[0].end(name) }

// wants does a statement behind what stands ahead, and asks that nothing comes of
// it but an event, of the name's end, and that what comes then emits what is told.
func wants(t *testing.T, ahead, does, name string, kind int, emits string) {
	t.Helper()
	m := begun(t, hands+"stage main(in recv int) { "+ahead+" "+does+" emit 99; }", 9)
	n := strings.Count(ahead, ";")
	goesOn(t, m, 0, n)
	end := endOf(m, name)
	if x := m.Task(0); x.State != api.TaskReady || (kind == api.EventNone) != (end == -1) {
		t.Fatalf("%s %s: %v, with the end %d", ahead, does, x, end)
	}
	before, tasks, events := viewOf(m), m.Tasks(), m.Events()
	goes(t, m, 0)
	want := append(events, api.Event{Kind: kind, Task: 0, At: 100 + n, End: end})
	if got := m.Events(); !slices.Equal(got, want) {
		t.Errorf("%s %s: %v, want %v", ahead, does, got, want)
	}
	got := viewOf(m)
	if m.Tasks() != tasks || got.ends != before.ends || got.chans != before.chans || got.out != "" {
		t.Errorf("%s %s: %+v, and then %+v", ahead, does, before, got)
	}
	for range strings.Fields(emits) {
		goes(t, m, 0)
	}
	if got := toldOut(m.Out()); got != emits {
		t.Errorf("%s %s: then %q, want %q", ahead, does, got, emits)
	}
}

// P19.2: each statement that uses an end to send, of each spot where it is not the
// task's: an event with the statement's place, nothing else, and what comes behind;
// also if the channel is full, so that one would have to wait else.
func TestWrongSends(t *testing.T) {
	for _, x := range spotsOfSend() {
		wants(t, x.ahead, "send s 6;", "s", x.through, "99")
		wants(t, x.ahead, "close s;", "s", x.drops, "99")
		wants(t, x.ahead, "clone z s;", "s", x.other, "99")
		wants(t, x.ahead, "spawn f(s);", "s", x.other, "99")
		through := x.ahead + " chan u v send int 1;"
		wants(t, through, "send u s;", "s", x.other, "99")
		wants(t, through+" chan y w int 1; send u y;", "send u s;", "s", x.other, "99")
	}
}

// P19.2: the same of ends to receive; of take what comes then is its Else, of for
// what comes behind.
func TestWrongRecvs(t *testing.T) {
	for _, x := range spotsOfRecv() {
		wants(t, x.ahead, "abandon r;", "r", x.drops, "99")
		wants(t, x.ahead, "drain r;", "r", x.drops, "99")
		wants(t, x.ahead, "take z from r { emit 1; } else { emit 2; emit 3; }", "r", x.other, "2 3 99")
		wants(t, x.ahead, "take z from r { emit 1; }", "r", x.other, "99")
		wants(t, x.ahead, "for z from r { emit 1; }", "r", x.other, "99")
		wants(t, x.ahead, "spawn g(r);", "r", x.other, "99")
		through := x.ahead + " chan u v recv int 1;"
		wants(t, through, "send u r;", "r", x.other, "99")
		wants(t, through+" send u in;", "send u r;", "r", x.other, "99")
	}
}

// P19.2: where others put a number among ends, there is none: each statement that
// uses such a one.
func TestWrongOfNumbersForEnds(t *testing.T) {
	for _, does := range []string{"abandon r;", "drain r;", "take z from r { emit 1; } else { }", "for z from r { emit 1; }", "spawn g(r);", "send u r;"} {
		m := begun(t, hands+"stage main(in recv int) { chan u v recv int 1; take r from v { "+does+" emit 99; } }")
		goes(t, m, 0)
		if !m.Put(2, aNumber(4)) {
			t.Fatal("Put")
		}
		goes(t, m, 0, 0)
		tells(t, m, "none:0@102:-1", "")
		goes(t, m, 0)
		shows(t, m, "4", "s0:-1 r0:0 s1:0 r1:0", "0/0[] 1/1[]", "none:0@102:-1", "99")
	}
}

// P19.2: of the send of an end A is looked at first, and what is wrong there is
// told alone, whether or not something is wrong with the other one.
func TestWrongSendsOfEnds(t *testing.T) {
	for _, a := range []spot{
		{"close u;", api.EventSent, 0, 0},
		{"spawn ff(u);", api.EventMoved, 0, 0},
		{"chan y w int 1; send u y; spawn ff(u);", api.EventMoved, 0, 0},
		{"chan y w send send int 1; send y u;", api.EventMoved, 0, 0},
		{"chan y w send send int 1; send y u; abandon w;", api.EventSent, 0, 0},
	} {
		wants(t, "chan s r int 1; chan u v send int 1; "+a.ahead, "send u s;", "u", a.through, "99")
		for _, b := range spotsOfSend() {
			wants(t, b.ahead+" chan u v send int 1; "+a.ahead, "send u s;", "u", a.through, "99")
		}
	}
	wants(t, "chan k v send int 1; close k; clone u k; chan s r int 1;", "send u s;", "u", api.EventNone, "99")
	wants(t, "chan k v send int 1; close k; clone u k; chan s r int 1; close s;", "send u s;", "u", api.EventNone, "99")
}

// P19.2: of spawn the first one that is wrong is told, and nothing is moved, also
// of those ahead of it; no task comes to be.
func TestWrongSpawns(t *testing.T) {
	const ahead = "chan a r int 1; abandon r; chan b q int 1; spawn g(q);"
	for _, x := range []struct {
		does, name string
		kind       int
	}{
		{"spawn three(in, 5, r, q);", "r", api.EventGone},
		{"spawn three(r, 5, in, q);", "r", api.EventGone},
		{"spawn three(q, 5, r, in);", "q", api.EventMoved},
		{"spawn three(in, 5, q, in);", "q", api.EventMoved},
		{"spawn three(in, 5, in, r);", "in", api.EventMoved},
		{"spawn three(r, 5, r, in);", "r", api.EventGone},
		{"spawn three(q, 5, q, q);", "q", api.EventMoved},
	} {
		wants(t, ahead, x.does, x.name, x.kind, "99")
	}
	wants(t, "", "spawn three(in, 1, in, in);", "in", api.EventMoved, "99")
	wants(t, "chan a r int 1;", "spawn three(in, 1, r, in);", "in", api.EventMoved, "99")
	wants(t, "chan a r int 1;", "spawn three(in, 1, r, r);", "r", api.EventMoved, "99")
}

// P19.2: an end that came back is the same by both of its names: a spawn of both
// is told.
func TestSpawnOfTheSameByTwoNames(t *testing.T) {
	m := begun(t, hands+"stage main(in recv int) { chan u v recv int 1; send u in; take r from v { spawn three(r, 1, in, r); emit 99; } }")
	goes(t, m, 0, 0, 0, 0, 0)
	shows(t, m, "4", "s0:-1 r0:0 s1:0 r1:0", "0/0[] 1/1[]", "moved:0@103:1", "99")
}

// P19.2: the task is the one that does it, and the place that of its statement,
// whatever the other tasks do.
func TestWrongOfAnotherTask(t *testing.T) {
	m := begun(t, "stage f(s send int) { clone z s; close s; close s; close z; send s 1; } stage main(in recv int) { chan a b int 1; spawn f(a); chan c d int 1; spawn f(c); close a; drain in; drain in; }")
	goes(t, m, 0, 0, 0, 0, 0, 0, 0, 0)
	goes(t, m, 2, 2, 2, 2, 2, 2, 1, 1, 1, 1, 1, 1)
	shows(t, m, "1! 0! 0!", "s0:-1 r0:-1 s1:-1 r1:0 s2:-1 r2:0 s2:-1 s1:-1", "0/0[]- 1/0[] 1/0[]",
		"owner:0@109:2 twice:0@111:1 leak:0@901:3 leak:0@901:5 twice:2@102:4 sent:2@104:4 twice:1@102:2 sent:1@104:2", "")
}
