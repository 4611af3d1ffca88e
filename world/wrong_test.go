package world

import (
	"fmt"
	"slices"
	"strings"
	"testing"

	"pipewright/api"
)

// hands are stages that ends are spawned away to; they are never picked here.
var hands = []api.Proc{proc("si", 1, ""), proc("ri", 1, ""), proc("ssi", 1, ""), proc("sri", 1, "")}

// types of main here: 1 and 2 are of one channel, as 3 and 4, 5 and 6, 8 and 9.
const types = "ri si ri ssi rsi sri rri i si ri"

// spot of an end that is not the task's: what brings it there, and the kinds of
// events, if something is sent through it, it is dropped, or used else.
type spot struct {
	name, ahead           string
	through, drops, other int
}

func spotsOfSend() []spot {
	return []spot{
		{"never bound", "", api.EventNone, api.EventNone, api.EventNone},
		{"over", "chan 1 2 x1; send 1 5; over 1", api.EventNone, api.EventNone, api.EventNone},
		{"dropped", "chan 1 2 x1; send 1 5; close 1", api.EventSent, api.EventTwice, api.EventGone},
		{"dropped twice", "chan 1 2 x1; send 1 5; close 1; close 1", api.EventSent, api.EventTwice, api.EventGone},
		{"spawned away", "chan 1 2 x1; send 1 5; spawn 0 #1", api.EventMoved, api.EventOwner, api.EventMoved},
		{"lies in a channel", "chan 1 2 x1; send 1 5; chan 3 4; give 3 1", api.EventMoved, api.EventOwner, api.EventMoved},
		{"went with a channel", "chan 1 2 x1; send 1 5; chan 3 4; give 3 1; abandon 4", api.EventSent, api.EventTwice, api.EventGone},
		{"sent to nobody", "chan 1 2 x1; send 1 5; chan 3 4; abandon 4; give 3 1", api.EventSent, api.EventTwice, api.EventGone},
	}
}

func spotsOfRecv() []spot {
	return []spot{
		{"never bound", "", api.EventNone, api.EventNone, api.EventNone},
		{"over", "chan 1 2; over 2", api.EventNone, api.EventNone, api.EventNone},
		{"dropped", "chan 1 2; abandon 2", api.EventSent, api.EventTwice, api.EventGone},
		{"drained", "chan 1 2; close 1; drain 2", api.EventSent, api.EventTwice, api.EventGone},
		{"spawned away, empty", "chan 1 2; spawn 1 #2", api.EventMoved, api.EventOwner, api.EventMoved},
		{"spawned away, full", "chan 1 2; send 1 5; spawn 1 #2", api.EventMoved, api.EventOwner, api.EventMoved},
		{"lies in a channel", "chan 1 2; chan 5 6; give 5 2", api.EventMoved, api.EventOwner, api.EventMoved},
		{"went with a channel", "chan 1 2; chan 5 6; give 5 2; abandon 6", api.EventSent, api.EventTwice, api.EventGone},
	}
}

// row joins instructions, and tells how many they are.
func row(parts ...string) (said string, n int) {
	said = strings.Join(slices.DeleteFunc(parts, func(s string) bool { return s == "" }), ";")
	if said == "" {
		return "", 0
	}
	return said, strings.Count(said, ";") + 1
}

// wants does an instruction behind what stands ahead, and asks that nothing
// comes of it but an event, of the end in v.
func wants(t *testing.T, ahead, ins string, v, kind int) {
	t.Helper()
	_, n := row(ahead)
	next := n + 1
	if strings.HasPrefix(ins, "take") {
		next = n + 3
		ins += fmt.Sprint(" :", next)
	}
	said, _ := row(ahead, ins, "emit 1; emit 2; emit 3")
	w := begun(t, code(append(hands, proc(types, 1, said))...), 9)
	goesTo(t, w, 0, n)
	end := w.tasks[0].vars[v].End
	if x := w.Task(0); x.State != api.TaskReady || (kind == api.EventNone) != (end == -1) {
		t.Fatalf("%s: %v, with the end %d", said, x, end)
	}
	before, tasks, events := viewOf(w), w.Tasks(), w.Events()
	goes(t, w, 0)
	want := append(events, api.Event{Kind: kind, Task: 0, At: place(n), End: end})
	if got := w.Events(); !slices.Equal(got, want) {
		t.Errorf("%s: %v, want %v", said, got, want)
	}
	got := viewOf(w)
	if w.At(0) != next || w.Tasks() != tasks || got.ends != before.ends || got.chans != before.chans || got.out != before.out {
		t.Errorf("%s: %+v, and then %+v", said, before, got)
	}
}

// P17.3: each instruction that uses an end to send, of each spot where it is not
// the task's: an event, nothing else, and on to the next one; also if the
// channel is full, so that one would have to wait else.
func TestWrongSends(t *testing.T) {
	for _, x := range spotsOfSend() {
		wants(t, x.ahead, "send 1 6", 1, x.through)
		wants(t, x.ahead, "close 1", 1, x.drops)
		wants(t, x.ahead, "clone 8 1", 1, x.other)
		wants(t, x.ahead, "spawn 0 #1", 1, x.other)
		through, _ := row(x.ahead, "chan 3 4")
		wants(t, through, "give 3 1", 1, x.other)
		wants(t, through+"; chan 8 9; give 3 8", "give 3 1", 1, x.other)
	}
}

// P17.3: the same of ends to receive; InTake goes on to its To.
func TestWrongRecvs(t *testing.T) {
	for _, x := range spotsOfRecv() {
		wants(t, x.ahead, "abandon 2", 2, x.drops)
		wants(t, x.ahead, "drain 2", 2, x.drops)
		wants(t, x.ahead, "take 7 2", 2, x.other)
		wants(t, x.ahead, "spawn 1 #2", 2, x.other)
		through, _ := row(x.ahead, "chan 5 6")
		wants(t, through, "give 5 2", 2, x.other)
		wants(t, through+"; give 5 0", "give 5 2", 2, x.other)
	}
}

// P17.3: of InGive A is looked at first, and what is wrong there is told alone,
// whether or not something is wrong with B.
func TestWrongGives(t *testing.T) {
	for _, a := range []spot{
		{"never bound", "over 3", api.EventNone, 0, 0},
		{"over", "chan 3 4; over 3", api.EventNone, 0, 0},
		{"dropped", "chan 3 4; close 3", api.EventSent, 0, 0},
		{"spawned away", "chan 3 4; spawn 2 #3", api.EventMoved, 0, 0},
		{"spawned away, full", "chan 3 4; chan 8 9; give 3 8; spawn 2 #3", api.EventMoved, 0, 0},
	} {
		wants(t, "chan 1 2; "+a.ahead, "give 3 1", 3, a.through)
		for _, b := range spotsOfSend() {
			ahead, _ := row(b.ahead, a.ahead)
			wants(t, ahead, "give 3 1", 3, a.through)
		}
	}
}

// P17.3: the same of an A that lies in a channel, or was dropped there.
func TestWrongGivesThroughWhatLies(t *testing.T) {
	main := "ri sri rri ssri rsri"
	for _, x := range []struct {
		said string
		kind int
	}{
		{"chan 1 2; chan 3 4; give 3 1; give 1 0", api.EventMoved},
		{"chan 1 2; chan 3 4; give 3 1; abandon 4; give 1 0", api.EventSent},
		{"chan 1 2; chan 3 4; abandon 4; give 3 1; give 1 0", api.EventSent},
	} {
		w := begun(t, code(proc(main, 1, x.said)))
		n := strings.Count(x.said, ";")
		goesTo(t, w, 0, n)
		before := viewOf(w)
		goes(t, w, 0)
		want := before
		want.tasks, want.events = fmt.Sprint("0@", n+1), fmt.Sprintf("%s:0@%d:2", eventWords[x.kind], place(n))
		if got := viewOf(w); got != want {
			t.Errorf("%s: %+v, want %+v", x.said, got, want)
		}
	}
}

// P17.3: the task is the one that does it, and the place that of its
// instruction, whatever the other tasks do.
func TestWrongOfAnotherTask(t *testing.T) {
	w := begun(t, code(proc("si", 1, "over 0; over 0; over 0; over 0; close 0; send 0 1"), proc("ri si ri", 1, "chan 1 2; spawn 0 #1; chan 1 2; spawn 0 #1; close 1; drain 0; drain 0")))
	runs(t, w)
	shows(t, w, "1! 0! 0!", "s0:-1 r0:-1 s1:1 r1:0 s2:2 r2:0", "0/0[]- 1/1[] 1/1[]",
		"owner:0@104:4 twice:0@106:1 leak:0@107:3 leak:0@107:5 none:1@104:-1 none:1@105:-1 leak:1@106:2 none:2@104:-1 none:2@105:-1 leak:2@106:4", "")
}
