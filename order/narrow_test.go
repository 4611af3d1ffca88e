package order

import (
	"fmt"
	"strings"
	"testing"

	"pipewright/api"
)

// P11.4: at an instruction that waits: no other variable, one, two.
func TestNarrowOfHowMany(t *testing.T) {
	for _, c := range []struct {
		types, said string
		want        bool
	}{
		{"ri", "", true},
		{"ri", "drain 0", true},
		{"ri i", "take 1 0 :1; drain 0; over 0", true},
		{"ri si ri", "drain 0; chan 1 2; close 1; drain 2", true},
		{"ri si ri", "drain 0; chan 1 2; abandon 2; send 1", true},
		{"ri si ri", "chan 1 2; abandon 2; send 1", true},
		{"ri si ri", "chan 1 2; abandon 2; drain 0", true},
		{"ri si ri i", "chan 1 2; abandon 2; take 3 0 :2", true},
		{"ri si ri", "chan 1 2; send 1", false},
		{"ri si ri", "chan 1 2; drain 0", false},
		{"ri si ri", "chan 1 2; drain 2", false},
		{"ri si ri si", "chan 1 2; clone 3 1; abandon 2; drain 0", false},
		{"ri si ri si", "chan 1 2; clone 3 1; abandon 2; send 1", false},
		{"ri si ri si ri", "chan 1 2; chan 3 4; abandon 2; close 3; send 1", false},
		{"ri si ri si ri", "chan 1 2; chan 3 4; abandon 2; abandon 4; drain 0", false},
		{"ri sri rri", "chan 1 2; abandon 2; give 1 0", true},
		{"ri sri rri si ri", "chan 1 2; abandon 2; chan 3 4; close 3; give 1 0", false},
		{"ri sri rri si ri", "chan 1 2; abandon 2; chan 3 4; abandon 4; give 1 0", false},
		// One that may be there counts as one that is.
		{"ri si ri si ri", "abandon 0; chan 1 2; abandon 2; if :6; chan 3 4; close 3; send 1", true},
		{"ri si ri si ri", "chan 1 2; abandon 2; if :5; chan 3 4; close 3; send 1", false},
		{"ri si ri si", "abandon 0; chan 1 2; abandon 2; if :5; clone 3 1; send 1", false},
	} {
		wantNarrow(t, code(proc(c.types, 1, c.said)), c.want)
	}
}

// P11.4: the one other is to send, if x receives, to receive, if x sends.
func TestNarrowOfWhichWay(t *testing.T) {
	for _, c := range []struct {
		said string
		want bool
	}{
		{"abandon 2; close 3; send 1", true},
		{"abandon 2; abandon 4; send 1", false},
		{"close 1; close 3; drain 2", false},
		{"close 1; abandon 4; drain 2", true},
		{"close 1; close 3; take 5 2 :6", false},
		{"close 1; abandon 4; take 5 2 :6", true},
		{"abandon 4; close 1; send 3", true},
		{"abandon 4; abandon 2; send 3", false},
		{"close 3; close 1; drain 4", false},
		{"close 3; abandon 2; drain 4", true},
	} {
		wantNarrow(t, code(proc("ri si ri si ri i", 1, "abandon 0; chan 1 2; chan 3 4;"+c.said)), c.want)
	}
	// What is given is the one other.
	for _, of := range allTypes[1:7] {
		types := fmt.Sprintf("ri s%s r%s %s", of, of, of)
		c := code(proc(of+" s"+of, 2, "give 1 0; close 1"), proc(types, 1, "abandon 0; chan 1 2; exit; spawn 0 3 1"))
		wantNarrow(t, c, of[0] == 'r')
		wantFine(t, c, true)
	}
}

// P11.4: the one other is of no channel that x may be of.
func TestNarrowOfOneChannel(t *testing.T) {
	for _, c := range []struct {
		said string
		want bool
	}{
		{"chan 1 2; send 1", false},
		{"chan 1 2; drain 2", false},
		{"chan 1 2; take 3 2 :3", false},
		{"chan 1 2; abandon 2; send 1", true},
		{"chan 1 2; close 1; drain 2", true},
		// 1 may be of 1 and 2, 5 of 2 and 3.
		{"chan 1 2; abandon 2; close 1; chan 1 5; close 1; abandon 5; chan 4 5; close 4; exit; send 1", true},
		{"chan 1 5; abandon 5; close 1; chan 1 2; abandon 2; close 1; chan 4 5; if :12; close 4; abandon 5; exit; emit; abandon 5; exit", true},
		{"chan 1 2; abandon 2; close 1; chan 1 5; send 1; close 1; abandon 5; chan 4 5; close 4; abandon 5", false},
		{"chan 4 5; close 4; drain 5; chan 1 2; drain 2", false},
	} {
		wantNarrow(t, code(proc("ri si ri i si ri", 1, "drain 0;"+c.said)), c.want)
	}
}

// x and y share but one of the channels that they may be of.
func TestNarrowOfSeveralChannels(t *testing.T) {
	f := proc("ri si", 2, "send 1; close 1; abandon 0")
	g := proc("ri si", 2, "drain 0; close 1")
	both := func(k int, said string) api.Code {
		return code(f, g, proc("ri si ri si ri", 1, "drain 0;"+fmt.Sprintf(said, k)))
	}
	for k := range 2 {
		// 4 is of 1, 2, 3; 1 of 4; then 1 of 3, too.
		wantNarrow(t, both(k, "chan 3 4; close 3; abandon 4; chan 3 4; close 3; abandon 4; chan 3 4; close 3; chan 1 2; abandon 2; spawn %d 4 1"), true)
		wantNarrow(t, both(k, "chan 3 4; close 3; abandon 4; chan 3 4; close 3; abandon 4; chan 1 4; close 1; chan 1 2; abandon 2; spawn %d 4 1"), false)
		wantNarrow(t, both(k, "chan 1 4; close 1; abandon 4; chan 3 4; close 3; abandon 4; chan 3 4; close 3; chan 1 2; abandon 2; spawn %d 4 1"), false)
	}
}

// wired has the stages f (waits to send as it has what it receives from) and g
// (waits to receive as it has what it sends through), and tasks of them: "f12"
// receives from the channel 1 and sends through 2.
func wired(n int, tasks ...string) api.Code {
	f := proc("ri si", 2, "send 1; close 1; abandon 0")
	g := proc("ri si", 2, "drain 0; close 1")
	types, chans, spawns := "ri", "drain 0;", ""
	for k := range n {
		types += " si ri"
		chans += fmt.Sprintf("chan %d %d;", 1+2*k, 2+2*k)
	}
	for _, task := range tasks {
		stage := int(task[0] - 'f')
		spawns += fmt.Sprintf("spawn %d %d %d;", stage, 2*int(task[1]-'0'), 2*int(task[2]-'0')-1)
	}
	return code(f, g, proc(types, 1, chans+spawns))
}

// P11.4: the edges lead from what is received from to what is sent through,
// whichever is waited for.
func TestNarrowOfRounds(t *testing.T) {
	for _, c := range []struct {
		n          int
		tasks      []string
		want, fine bool
	}{
		{1, []string{"f11"}, false, false},
		{1, []string{"g11"}, false, false},
		{2, []string{"f12"}, true, true},
		{2, []string{"g12"}, true, true},
		{2, []string{"f12", "f21"}, false, false},
		{2, []string{"g12", "g21"}, false, false},
		{2, []string{"f12", "g21"}, false, true},
		{2, []string{"g12", "f21"}, false, true},
		{3, []string{"f12", "f23"}, true, true},
		{3, []string{"f12", "g23"}, true, true},
		{3, []string{"g12", "f23"}, true, true},
		{3, []string{"g32", "f21"}, true, true},
		{3, []string{"f12", "f23", "f31"}, false, false},
		{3, []string{"g12", "g23", "g31"}, false, false},
		{3, []string{"f12", "g23", "f31"}, false, true},
		{3, []string{"g12", "f23", "g31"}, false, true},
		{4, []string{"f12", "g23", "f34", "g41"}, false, true},
		{4, []string{"f12", "f34", "g43"}, false, true},
		{9, []string{"f12", "g23", "f34", "g45", "f56", "g67", "f78", "g89"}, true, true},
		{9, []string{"f12", "g23", "f34", "g45", "f56", "g67", "f78", "g89", "f91"}, false, true},
		{9, []string{"f98", "g87", "f76", "g65", "f54", "g43", "f32", "g21"}, true, true},
		{9, []string{"f98", "g87", "f76", "g65", "f54", "g43", "f32", "g21", "f19"}, false, true},
	} {
		code := wired(c.n, c.tasks...)
		wantNarrow(t, code, c.want)
		wantFine(t, code, c.fine)
	}
}

// P11.4: a ring of the last channels that there may be, and all but its last
// task.
func TestNarrowOfLongRounds(t *testing.T) {
	for n := 2; n < 30; n++ {
		c := ring(n, "")
		wantNarrow(t, c, false)
		wantFine(t, c, false)
		p := &c.Procs[1]
		p.Ins[len(p.Ins)-2] = api.Ins{Op: api.InAbandon, A: 2 * n}
		p.Ins = append(p.Ins[:len(p.Ins)-1], api.Ins{Op: api.InClose, A: 1}, api.Ins{Op: api.InExit})
		wantNarrow(t, c, true)
		wantFine(t, c, true)
	}
}

// P11.4: any note, of any Proc, and it isn't narrow.
func TestNarrowOfNotes(t *testing.T) {
	whole := proc("ri", 1, "drain 0; over 0")
	for _, said := range []string{"over 0", "drain 0; drain 0", "if :2; drain 0; drain 0", "take 0 1 :0"} {
		spoilt := proc("ri rri", 1, said)
		if said == "take 0 1 :0" {
			spoilt = proc("ri rri", 2, said)
		}
		wantNarrow(t, code(spoilt, whole), false)
		wantNarrow(t, code(whole, whole), true)
		c := code(whole, whole, spoilt)
		c.Main = 0
		wantNarrow(t, c, false)
	}
}

// P11.4: what is held by stages that no task is of, and where no way comes,
// counts for nothing.
func TestNarrowElsewhere(t *testing.T) {
	wide := proc("ri si ri", 3, "send 1; drain 0; close 1; drain 2")
	wantNarrow(t, code(wide, proc("ri", 1, "drain 0")), true)
	wantNarrow(t, code(wide, proc("ri si ri", 1, "chan 1 2; spawn 0 0 1 2")), false)
	wantNarrow(t, code(wide, proc("ri si ri", 1, "chan 1 2; exit; spawn 0 0 1 2")), false)
	wantNarrow(t, code(proc("ri si ri", 1, "chan 1 2; exit; send 1; drain 0; drain 2")), true)
	wantNarrow(t, code(proc("ri si ri", 1, "chan 1 2; jump :1; send 1; drain 0; drain 2")), true)
}

// P11.4: what may be of no channel is there all the same.
func TestNarrowOfNoChannel(t *testing.T) {
	// The channel 1 brings ends (nobody sends any): what is taken, 1, is there.
	brings := func(of, said string) api.Code {
		over := 4 + strings.Count(said, ";")
		below := proc("r"+of+" "+of+" si ri", 1, fmt.Sprintf("take 1 0 :%d; abandon 0; chan 2 3; %s", over, said))
		return code(below, proc("ri s"+of+" r"+of, 1, "drain 0; chan 1 2; close 1; spawn 0 2"))
	}
	for _, c := range []struct {
		of, said string
		want     bool
	}{
		{"ri", "abandon 3; send 2", true},
		{"si", "abandon 3; send 2", false},
		{"ri", "close 2; drain 3", false},
		{"si", "close 2; drain 3", true},
		{"ri", "close 2; abandon 3", true},
		{"ri", "drain 3", false},
		{"si", "abandon 3; send 1", false},
		{"si", "close 2; send 1", true},
		{"si", "send 1", false},
		{"ri", "close 2; drain 1", false},
		{"ri", "abandon 3; drain 1", true},
		{"ri", "drain 1", false},
	} {
		wantNarrow(t, brings(c.of, c.said), c.want)
		if !strings.Contains(c.said, ";") {
			continue
		}
		wantFine(t, brings(c.of, c.said), true)
		wantWaits(t, brings(c.of, c.said), "")
	}
}

// P11.4: programs as they are written.
func TestNarrowOfPrograms(t *testing.T) {
	for _, c := range []struct {
		what, src    string
		narrow, fine bool
	}{
		{"a pipe", pipe + "stage main(in recv int) { chan s r int 1; spawn f(in, s); for x from r { emit x; } drain r; }", true, true},
		{"two that join", "stage g(a recv int, b recv int, c send int) { for x from a { send c x; } drain a; for y from b { send c y; } drain b; close c; } " +
			"stage main(in recv int) { chan s r int 1; chan u v int 1; close s; spawn g(in, r, u); drain v; }", false, true},
		{"one that parts", "stage g(a recv int, b send int, c send int) { for x from a { send b x; send c x; } drain a; close b; close c; } " +
			"stage h(a recv int) { drain a; } stage main(in recv int) { chan s r int 1; chan u v int 1; spawn g(in, s, u); spawn h(r); spawn h(v); }", false, true},
		{"one that parts, and one that empties the one side first", "stage g(a recv int, b send int, c send int) { for x from a { send b x; send c x; } drain a; close b; close c; } " +
			"stage main(in recv int) { chan s r int 1; chan u v int 1; spawn g(in, s, u); drain r; drain v; }", false, false},
		{"to oneself", "stage main(in recv int) { chan s r int 1; send s 1; close s; drain r; drain in; }", false, false},
		{"handed on", "stage g(a recv recv int) { for x from a { drain x; } drain a; } " +
			"stage main(in recv int) { chan s r recv int 1; spawn g(r); send s in; close s; }", false, true},
		{"left", "stage main(in recv int) { }", false, false},
	} {
		t.Run(c.what, func(t *testing.T) {
			wantNarrow(t, lowered(t, c.src), c.narrow)
			wantFine(t, lowered(t, c.src), c.fine)
		})
	}
}
