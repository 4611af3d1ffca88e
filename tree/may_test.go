package tree

import (
	"fmt"
	"slices"
	"strings"
	"testing"

	"pipewright/api"
)

// P9: Main's first parameter may be of the channel 0, whatever is done to it.
func TestMayOfMainsParameter(t *testing.T) {
	wantMay(t, code(proc("ri", 1, "")), "0")
	wantMay(t, code(proc("ri ri si i rri", 1, "drain 0; drain 0; over 0; abandon 1; close 2; over 2; let 3")), "0 . . . .")
	wantMay(t, code(proc("ri i", 1, "take 1 0 :0; take 1 0 :1")), "0 .")
	// That of a stage that is not Main, nor begins, is of none.
	wantMay(t, code(proc("ri", 1, ""), proc("ri ri", 1, "spawn 0 1")), "0 . / .")
	wantMay(t, code(proc("ri", 1, ""), proc("ri", 1, ""), proc("ri ri", 1, "spawn 0 1; spawn 1 0")), "0 . / . / 0")
	wantMay(t, code(proc("si ri", 0, ""), proc("ri", 1, "spawn 0")), "0 / . .")
}

// P9: A and B of an InChan may be of its channel.
func TestMayOfChan(t *testing.T) {
	wantMay(t, code(proc("ri si ri", 1, "chan 1 2")), "0 1 1")
	wantMay(t, code(proc("ri si ri si ri", 1, "chan 1 2; chan 3 4")), "0 1 1 2 2")
	wantMay(t, code(proc("ri si ri si ri", 1, "chan 3 4; chan 1 2")), "0 2 2 1 1")
	wantMay(t, code(proc("ri si ri si ri", 1, "chan 1 4; chan 3 2")), "0 1 2 2 1")
	// Bound anew: of both; what is closed, dropped or over stays.
	wantMay(t, code(proc("ri si ri", 1, "chan 1 2; chan 1 2")), "0 1,2 1,2")
	wantMay(t, code(proc("ri si ri", 1, "chan 1 2; close 1; drain 2; over 1; over 2; chan 1 2; abandon 2")), "0 1,2 1,2")
	wantMay(t, code(proc("ri si ri ri", 1, "chan 1 2; chan 1 3; chan 1 0")), "0,3 1,2,3 1 2")
	wantMay(t, code(proc("ri si", 1, "chan 1 0")), "0,1 1")
	// Where no way comes, too.
	wantMay(t, code(proc("ri si ri", 1, "exit; chan 1 2")), "0 1 1")
	// Each task has its own.
	a := proc("si ri", 0, "chan 0 1")
	wantMay(t, code(a, proc("ri", 1, "spawn 0; spawn 0")), "0 / 1 1 / 2 2")
	wantMay(t, code(a, proc("ri si ri", 1, "spawn 0; chan 1 2; spawn 0")), "0 1 1 / 2 2 / 3 3")
}

// P9: A of an InClone may be what B may be.
func TestMayOfClone(t *testing.T) {
	wantMay(t, code(proc("ri si ri si", 1, "chan 1 2; clone 3 1")), "0 1 1 1")
	wantMay(t, code(proc("ri si ri si", 1, "clone 3 1; chan 1 2")), "0 1 1 1")
	wantMay(t, code(proc("ri si ri si", 1, "chan 1 2; clone 1 3")), "0 1 1 .")
	wantMay(t, code(proc("ri si ri si", 1, "exit; clone 3 1; chan 1 2")), "0 1 1 1")
	// Not the other way round.
	wantMay(t, code(proc("ri si ri si ri", 1, "chan 1 2; chan 3 4; clone 3 1")), "0 1 1 1,2 2")
	wantMay(t, code(proc("ri si ri si ri", 1, "chan 1 2; chan 3 4; clone 1 3")), "0 1,2 1 2 2")
	// A round of two, and a row, forth and back.
	wantMay(t, code(proc("ri si ri si ri", 1, "chan 1 2; chan 3 4; clone 3 1; clone 1 3")), "0 1,2 1 1,2 2")
	wantMay(t, code(proc("ri si ri si si si", 1, "chan 1 2; clone 3 1; clone 4 3; clone 5 4")), "0 1 1 1 1 1")
	wantMay(t, code(proc("ri si ri si si si", 1, "clone 5 4; clone 4 3; clone 3 1; chan 1 2")), "0 1 1 1 1 1")
	wantMay(t, code(proc("ri si ri si si si", 1, "clone 5 4; clone 4 3; chan 1 2")), "0 1 1 . . .")
	// Of each type to send.
	for _, of := range strings.Fields("i si ri ssi sri rsi rri") {
		types := fmt.Sprintf("ri s%s r%s s%s", of, of, of)
		wantMay(t, code(proc(types, 1, "clone 3 1; chan 1 2")), "0 1 1 1")
	}
	// In each task for itself.
	a := proc("si ri si", 0, "clone 2 0; chan 0 1")
	wantMay(t, code(a, proc("ri", 1, "spawn 0; spawn 0")), "0 / 1 1 1 / 2 2 2")
}

// P9: a parameter of a spawned task may be what the Arg's V may be.
func TestMayOfParameters(t *testing.T) {
	a := proc("si", 1, "")
	wantMay(t, code(a, proc("ri si ri", 1, "chan 1 2; spawn 0 1")), "0 1 1 / 1")
	wantMay(t, code(a, proc("ri si ri", 1, "spawn 0 1; chan 1 2")), "0 1 1 / 1")
	wantMay(t, code(a, proc("ri si ri", 1, "exit; spawn 0 1; chan 1 2")), "0 1 1 / 1")
	wantMay(t, code(a, proc("ri si ri si", 1, "spawn 0 3; chan 1 2")), "0 1 1 . / .")
	wantMay(t, code(a, proc("ri si ri", 1, "chan 1 2; chan 1 2; spawn 0 1")), "0 1,2 1,2 / 1,2")
	// Each task by its own spawn.
	two := "chan 1 2; chan 3 4;"
	wantMay(t, code(a, proc("ri si ri si ri", 1, two+"spawn 0 1; spawn 0 3")), "0 1 1 2 2 / 1 / 2")
	wantMay(t, code(a, proc("ri si ri si ri", 1, two+"spawn 0 3; spawn 0 1")), "0 1 1 2 2 / 2 / 1")
	wantMay(t, code(a, proc("ri si ri si ri", 1, two+"clone 1 3; spawn 0 3; spawn 0 1")), "0 1,2 1 2 2 / 2 / 1,2")
	// The same V twice, and in an order of their own.
	b := proc("ri si ri", 3, "")
	wantMay(t, code(b, proc("ri si ri si ri", 1, two+"spawn 0 4 3 0; spawn 0 2 1 2")), "0 1 1 2 2 / 2 2 0 / 1 1 1")
	// What the task does to its parameter is its own.
	c := proc("si ri", 1, "chan 0 1")
	wantMay(t, code(c, proc("ri si ri", 1, "chan 1 2; spawn 0 1")), "0 1 1 / 1,2 2")
	// Through a stage to the one below it, and twice.
	d := proc("si si", 1, "spawn 0 0; spawn 0 1; clone 1 0")
	wantMay(t, code(a, d, proc("ri si ri si ri", 1, two+"spawn 1 1; spawn 1 3")), "0 1 1 2 2 / 1 1 / 2 2 / 1 / 1 / 2 / 2")
	// Variables behind the parameters are not handed anything.
	e := proc("si si ri", 2, "")
	wantMay(t, code(e, proc("ri si ri", 1, "chan 1 2; spawn 0 1 1")), "0 1 1 / 1 1 .")
}

// P9: Args with an E and such with none, in every mix: those with an E hand
// nothing over, whatever their V.
func TestMayOfArgsInEveryMix(t *testing.T) {
	const most = 6
	for n := range most + 1 {
		for mix := range 1 << n {
			for _, v := range []string{"0", "1", "2", "3"} {
				types, args, want := "", "", ""
				for k := range n {
					if mix>>k&1 == 0 {
						types, args, want = types+" i", args+" e"+v, want+" ."
						continue
					}
					types += []string{" si", " ri", " ri"}[k%3]
					args += []string{" 1", " 2", " 0"}[k%3]
					want += []string{" 1", " 1", " 0"}[k%3]
				}
				main := proc("ri si ri i", 1, "chan 1 2; spawn 0"+args)
				wantMay(t, code(proc(types, n, ""), main), "0 1 1 . /"+pad(want))
			}
		}
	}
}

// pad keeps the blank behind the / where nothing else stands there.
func pad(s string) string {
	if s == "" {
		return " "
	}
	return s
}

// P9: an Arg's V that has an E is not even a variable's number.
func TestMayOfArgsWithWildV(t *testing.T) {
	for _, n := range wild {
		c := code(proc("i si i", 3, ""), proc("ri si ri", 1, "chan 1 2; spawn 0 e0 1 e0"))
		c.Procs[1].Ins[1].Args[0].V, c.Procs[1].Ins[1].Args[2].V = n, n
		wantMay(t, c, "0 1 1 / . 1 .")
	}
}

// P9: through a channel goes what is given, and is taken from it.
func TestMayThroughAChannel(t *testing.T) {
	// 0 in, 1 and 2 the ends of a channel of ends to receive, 3 what is taken.
	types := "ri sri rri ri"
	wantMay(t, code(proc(types, 1, "chan 1 2; give 1 0; take 3 2")), "0 1 1 0")
	wantMay(t, code(proc(types, 1, "take 3 2; give 1 0; chan 1 2")), "0 1 1 0")
	wantMay(t, code(proc(types, 1, "give 1 0; take 3 2; chan 1 2")), "0 1 1 0")
	wantMay(t, code(proc(types, 1, "exit; take 3 2; chan 1 2; give 1 0")), "0 1 1 0")
	// One of the three away.
	wantMay(t, code(proc(types, 1, "give 1 0; take 3 2")), "0 . . .")
	wantMay(t, code(proc(types, 1, "chan 1 2; take 3 2")), "0 1 1 .")
	wantMay(t, code(proc(types, 1, "chan 1 2; give 1 0")), "0 1 1 .")
	// What is given is none, or comes back to where it was.
	wantMay(t, code(proc(types, 1, "chan 1 2; give 1 3; take 3 2")), "0 1 1 .")
	wantMay(t, code(proc(types, 1, "chan 1 2; give 1 0; take 0 2")), "0 1 1 .")
	wantMay(t, code(proc(types, 1, "chan 1 2; give 1 0; give 1 3; take 0 2; take 3 2")), "0 1 1 0")
	// Dropped ends count all the same.
	wantMay(t, code(proc(types, 1, "chan 1 2; close 1; drain 0; give 1 0; abandon 2; over 2; take 3 2")), "0 1 1 0")
	// By another end of the channel.
	wantMay(t, code(proc(types+" sri", 1, "chan 1 2; clone 4 1; give 4 0; take 3 2")), "0 1 1 0 1")
	wantMay(t, code(proc(types+" sri", 1, "chan 1 2; clone 1 4; give 4 0; take 3 2")), "0 1 1 . .")
	// An end of the same channel may not go through it, but its other one's may.
	wantMay(t, code(proc("ri ssi rsi si si ri", 1, "chan 1 2; chan 3 5; give 1 3; take 4 2; take 3 2")), "0 1 1 2 2 2")
}

// P9: what is taken is what goes through just those channels.
func TestMayThroughJustThose(t *testing.T) {
	// 1 2 and 3 4: two channels; 5 6: another one; 7 and 8: what is taken.
	types := "ri sri rri sri rri si ri ri ri"
	chans := "chan 1 2; chan 3 4; chan 5 6;"
	wantMay(t, code(proc(types, 1, chans+"give 1 0; give 3 6; take 7 2; take 8 4")), "0 1 1 2 2 3 3 0 3")
	wantMay(t, code(proc(types, 1, chans+"give 3 0; give 1 6; take 7 2; take 8 4")), "0 1 1 2 2 3 3 3 0")
	wantMay(t, code(proc(types, 1, chans+"give 1 0; give 1 6; take 7 2; take 8 4")), "0 1 1 2 2 3 3 0,3 .")
	wantMay(t, code(proc(types, 1, chans+"give 1 6; give 1 0; take 8 2; take 7 4")), "0 1 1 2 2 3 3 . 0,3")
	wantMay(t, code(proc(types, 1, chans+"give 1 0; give 3 6; take 7 2; take 7 4")), "0 1 1 2 2 3 3 0,3 .")
	wantMay(t, code(proc(types, 1, chans+"give 3 0; give 1 6; take 7 4; take 7 2; give 1 7")), "0 1 1 2 2 3 3 0,3 .")
	// A channel's end that may be two: both, as it sends and as it receives.
	wantMay(t, code(proc(types, 1, chans+"chan 1 4; give 1 0; give 3 6; take 7 2; take 8 4")), "0 1,4 1 2 2,4 3 3 0 0,3")
	wantMay(t, code(proc(types, 1, chans+"clone 1 3; give 1 0; give 3 6; take 7 2; take 8 4")), "0 1,2 1 2 2 3 3 0 0,3")
}

// P9: A of an InTake that is a number may be nothing.
func TestMayOfTakenNumbers(t *testing.T) {
	wantMay(t, code(proc("ri si ri i", 1, "chan 1 2; take 3 0; take 3 2; send 1")), "0 1 1 .")
	wantMay(t, code(proc("ri si ri i sri rri ri", 1, "chan 1 2; chan 4 5; take 3 2; give 4 2; give 4 0; take 6 5; take 3 6")), "0 1 1 . 2 2 0,1")
	c := lowered(t, "stage main(in recv int) { let n = 1; chan s r int 2; for x from in { send s x; } take y from r { } repeat n { } drain in; close s; drain r; }")
	wantMay(t, c, "0 . 1 1 . . .")
}

// P9: from task to task, through channels.
func TestMayFromTaskToTask(t *testing.T) {
	// The spawned one sends back what it made.
	maker := proc("sri si ri", 1, "chan 1 2; give 0 2")
	user := proc("rri ri", 1, "take 1 0")
	types := "ri sri rri ri sri"
	wantMay(t, code(maker, proc(types, 1, "chan 1 2; spawn 0 1; take 3 2")), "0 1 1 2 . / 1 2 2")
	wantMay(t, code(maker, proc(types, 1, "chan 1 2; clone 4 1; spawn 0 1; spawn 0 4; take 3 2")), "0 1 1 2,3 1 / 1 2 2 / 1 3 3")
	wantMay(t, code(maker, user, proc(types, 1, "chan 1 2; spawn 1 2; spawn 0 1")), "0 1 1 . . / 1 2 / 1 2 2")
	wantMay(t, code(maker, user, proc(types, 1, "chan 1 2; spawn 1 2; give 1 0")), "0 1 1 . . / 1 0")
	wantMay(t, code(maker, user, proc(types, 1, "spawn 1 2; give 1 0")), "0 . . . . / . .")
	// Two pairs that do not meet.
	wantMay(t, code(maker, user, proc("ri sri rri sri rri", 1, "chan 1 2; chan 3 4; spawn 0 1; spawn 1 2; spawn 0 3; spawn 1 4")),
		"0 1 1 2 2 / 1 3 3 / 1 3 / 2 4 4 / 2 4")
}

// P9: ends that go through channels whose ends go through channels.
func TestMayThroughChannelsThroughChannels(t *testing.T) {
	// 1 2: of ends to receive ends to receive; 3 4: of ends to receive; 5: of the
	// first kind taken; 6: what is taken from that.
	types := "ri srri rrri sri rri rri ri"
	want := "0 1 1 2 2 2 0"
	lines := strings.Split("chan 1 2,chan 3 4,give 3 0,give 1 4,take 5 2,take 6 5", ",")
	wantInEachOrder(t, types, lines, want)
	// Sent through to be sent through: an end to send that was taken.
	types = "ri ssri rsri sri rri sri ri"
	lines = strings.Split("chan 1 2,chan 3 4,give 1 3,take 5 2,give 5 0,take 6 4", ",")
	wantInEachOrder(t, types, lines, want)
	for k := range lines {
		less := strings.Join(slices.Delete(slices.Clone(lines), k, k+1), ";")
		if got := grown(t, code(proc(types, 1, less))).May[0][6]; len(got) != 0 {
			t.Errorf("without %s: %v", lines[k], got)
		}
	}
}

// wantInEachOrder asks for the lists of the lines in all orders; the channels 1
// and 2 are the other one's, where that is made first.
func wantInEachOrder(t *testing.T, types string, lines []string, want string) {
	t.Helper()
	lines = slices.Clone(lines)
	var lay func(k int)
	lay = func(k int) {
		if k == len(lines) {
			said, told := strings.Join(lines, ";"), want
			if strings.Index(said, "chan 3") < strings.Index(said, "chan 1") {
				told = strings.NewReplacer("1", "2", "2", "1").Replace(want)
			}
			wantMay(t, code(proc(types, 1, said)), told)
			return
		}
		for i := k; i < len(lines) && !t.Failed(); i++ {
			lines[k], lines[i] = lines[i], lines[k]
			lay(k + 1)
			lines[k], lines[i] = lines[i], lines[k]
		}
	}
	lay(0)
}

// P9: rounds: what is taken is given to where it is taken from.
func TestMayInRounds(t *testing.T) {
	// Two channels 1 2 and 3 4 of ends to receive: what is in one comes to the
	// other one.
	types := "ri sri rri sri rri ri ri si ri"
	lines := strings.Split("chan 1 2; chan 3 4; take 5 2; give 3 5; take 6 4; give 1 6", ";")
	wantMay(t, code(proc(types, 1, strings.Join(lines, ";"))), "0 1 1 2 2 . . . .")
	wantInEachOrder(t, types, append(lines, "give 1 0"), "0 1 1 2 2 0 0 . .")
	wantMay(t, code(proc(types, 1, strings.Join(lines, ";")+"; give 1 0; chan 7 8; give 3 8")), "0 1 1 2 2 0,3 0,3 3 3")
	// Of several tasks in a ring, each one's to the next one's; one has something.
	hand := proc("rri sri ri", 2, "take 2 0; give 1 2")
	ring := "ri sri rri sri rri sri rri"
	said := "spawn 0 2 3; spawn 0 4 5; spawn 0 6 1; chan 5 6; chan 3 4; chan 1 2;"
	wantMay(t, code(hand, proc(ring, 1, said)), "0 3 3 2 2 1 1 / 3 2 . / 2 1 . / 1 3 .")
	for k := 1; k < 6; k += 2 {
		wantMay(t, code(hand, proc(ring, 1, said+fmt.Sprintf("give %d 0", k))), "0 3 3 2 2 1 1 / 3 2 0 / 2 1 0 / 1 3 0")
	}
	// A stage that sends on the end through which it sends on.
	own := proc("rsri ssri sri ri", 2, "take 2 0; give 1 2; give 2 3")
	wantMay(t, code(own, proc("ri ssri rsri sri rri ri", 1, "chan 1 2; chan 3 4; give 1 3; spawn 0 2 1; give 3 0; take 5 4")),
		"0 1 1 2 2 0 / 1 1 2 .")
}

// P9: what is found late leads on to more, behind what was gone over already.
func TestMayFoundLate(t *testing.T) {
	// A ladder: each step's end comes out of the channel of the step ahead, and
	// only what is given there by it leads on.
	// Variables of step k: an ssri, an rsri, what is taken (sri), an sri, an rri,
	// and what is taken (ri).
	const steps = 9
	types := []string{"ri"}
	var lines []string
	want := []string{"0"}
	for k := range steps {
		v := 1 + 6*k
		types = append(types, "ssri", "rsri", "sri", "sri", "rri", "ri")
		given := v - 1 // what the step ahead took, or what comes in
		lines = append(lines, fmt.Sprintf("chan %d %d; chan %d %d; give %d %d; take %d %d; give %d %d; take %d %d",
			v, v+1, v+3, v+4, v, v+3, v+2, v+1, v+2, given, v+5, v+4))
	}
	back := slices.Clone(lines)
	slices.Reverse(back)
	for n, all := range [][]string{lines, back} {
		want = want[:1]
		for k := range steps {
			first := 1 + 2*k
			if n == 1 {
				first = 1 + 2*(steps-1-k)
			}
			want = append(want, fmt.Sprintf("%d %d %d %d %d 0", first, first, first+1, first+1, first+1))
		}
		wantMay(t, code(proc(strings.Join(types, " "), 1, strings.Join(all, ";"))), strings.Join(want, " "))
	}
}

// P9: a variable that may be of several channels: rising, none twice.
func TestMayRises(t *testing.T) {
	for n := range 30 {
		types, said, list := "ri si ri si", "", []string{}
		for i := range n {
			said += "chan 1 2; clone 3 1; clone 1 3;"
			list = append(list, fmt.Sprint(i+1))
		}
		all := strings.Join(list, ",")
		if n == 0 {
			all = "."
		}
		wantMay(t, code(proc(types, 1, said)), strings.TrimSpace("0 "+all+" "+all+" "+all))
		with := "0"
		for _, one := range list {
			with += "," + one
		}
		c := code(proc("ri si", 1, rep("chan 1 0;", n)))
		wantMay(t, c, with+" "+all)
	}
	// All thirty channels in one list, found from the last one on.
	types, said, want := "ri", "", "0"
	for i := range 29 {
		types += " si ri"
		if i > 0 {
			said = fmt.Sprintf("clone %d %d;", 2*i-1, 2*i+1) + said
		}
		said += fmt.Sprintf("chan %d %d;", 2*i+1, 2*i+2)
	}
	for i := range 29 {
		list := []string{}
		for k := i; k < 29; k++ {
			list = append(list, fmt.Sprint(k+1))
		}
		want += " " + strings.Join(list, ",") + fmt.Sprint(" ", i+1)
	}
	wantMay(t, code(proc(types, 1, said)), want)
}

// P9: variables that are no ends, and such as nothing is done to: none; and a
// list for each variable, as many as a Proc may have.
func TestMayOfAllVariables(t *testing.T) {
	wantMay(t, code(proc("", 0, ""), proc("i i", 2, ""), proc("ri i i", 1, "spawn 0; spawn 1 e0 e0; let 1; turns 2; count 1")), "0 . . /  / . .")
	all := strings.Join(allTypes, " ")
	wantMay(t, code(proc("ri "+all, 1, "")), "0"+rep(" .", len(allTypes)))
	p := proc("ri si ri", 1, "")
	for len(p.Vars) < 2*api.MaxIns {
		p.Vars = append(p.Vars, api.Var{T: "si"})
	}
	last := len(p.Vars) - 1
	p.Ins = proc("ri si ri", 1, "chan 1 2; exit").Ins
	p.Ins[1] = api.Ins{Op: api.InClone, A: last, B: 1}
	wantMay(t, code(p), "0 1 1"+rep(" .", last-3)+" 1")
}

// P9: programs.
func TestMayOfPrograms(t *testing.T) {
	wantMay(t, lowered(t, "stage main(in recv int) { chan a b recv int 1; send a in; take c from b { drain c; } close a; drain b; }"), "0 1 1 0")
	// A server that answers through the ends that it is sent.
	c := lowered(t, `stage serve(q recv send int) { for s from q { send s 1; close s; } drain q; }
stage ask(q send send int, n int) { chan s r int 1; send q s; close q; for x from r { emit x + n; } drain r; }
stage main(in recv int) {
	chan q p send int 2;
	clone o q;
	spawn serve(p);
	spawn ask(q, 1);
	spawn ask(o, 2);
	drain in;
}`)
	wantTasks(t, c, "2<-1@0 0<0@2 1<0@3 1<0@4")
	wantSites(t, c, "-1@0:0i 0@0:2si 2@0:1i 3@0:1i")
	wantMay(t, c, "0 1 1 1 / 1 2,3 / 1 . 2 2 . / 1 . 3 3 .")
}
