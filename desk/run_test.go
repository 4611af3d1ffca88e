package desk

import (
	"fmt"
	"strings"
	"testing"

	"pipewright/api"
)

// handsOn has a task that waits for what the main one sends.
const handsOn = "stage f(a recv int) { drain a; }\nstage main(in recv int) { chan s r int 1; spawn f(r); send s 7; send s 8; close s; drain in; }"

// P20.1: step N: a task that is ready steps; one that waits, that is over, or that
// there is not stays, and nothing is done.
func TestStep(t *testing.T) {
	d := begun(t, handsOn)
	plays(t, d, `
		tasks => task 0 main ready
		step 1 => stays
		step 0 => steps
		step 1 => stays
		step 0 => steps
		tasks => task 0 main ready / task 1 f waits 1
		step 1 => stays
		tasks => task 0 main ready / task 1 f waits 1
		chans => chan 0 0 there 0 / chan 1 1 there 0
		step 0 => steps
		chans => chan 0 0 there 0 / chan 1 1 there 1
		tasks => task 0 main waits 1 / task 1 f ready
		step 0 => stays
		step 1 => steps
		tasks => task 0 main ready / task 1 f waits 1
		chans => chan 0 0 there 0 / chan 1 1 there 0
		step 0 => steps
		step 1 => steps
		step 0 => steps
		chans => chan 0 0 there 0 / chan 1 0 there 0
		tasks => task 0 main ready / task 1 f ready
		step 1 => steps
		chans => chan 0 0 there 0 / chan 1 0 gone 0
		step 1 => steps
		tasks => task 0 main ready / task 1 f ready
		step 1 => steps
		tasks => task 0 main ready / task 1 f over
		step 1 => stays
		tasks => task 0 main ready / task 1 f over`)
	for k := range 20 {
		if does(t, d, "step 0") == "stays\n" {
			tells(t, d, told("task 0 main over", "task 1 f over", "stays", "ran 0"), "tasks", "step 0", "run 9")
			return
		}
		tells(t, d, "stays\n", "step 1")
		if k > 10 {
			t.Fatal("the main task goes on and on")
		}
	}
}

// P20.1: numbers of no task, as they are, not some bits of them.
func TestStepOfNoTask(t *testing.T) {
	d := begun(t, handsOn)
	tells(t, d, "steps\nsteps\n", "step 0", "step 0")
	before := view(t, d)
	for _, n := range []string{"-1", "-2", "2", "3", "1000", "4294967296", "4294967297", "-4294967296", "256", "65536", "2147483648", greatest, least, "9223372036854775806", "-9223372036854775807"} {
		tells(t, d, "stays\n", "step "+n)
		if after := view(t, d); after != before {
			t.Fatalf("step %s: %s became %s", n, before, after)
		}
	}
}

// long is a program of more than 100000 steps.
var long = main("repeat 2 { " + strings.Repeat("repeat 6 { ", 6) + "emit 1; " + strings.Repeat("} ", 7) + "drain in;")

// P20.1: run N: N steps, or till none is ready; from 0 to 100000.
func TestRun(t *testing.T) {
	d := begun(t, main("emit 1; emit 2; emit 3; drain in;"), 4)
	tells(t, d, told("ran 0", "out", "ran 1", "out 1", "ran 0", "ran 2", "out 1 2 3", "ran 4", "ran 0", "task 0 main over"),
		"run 0", "out", "run 1", "out", "run 0", "run 2", "out", "run 100000", "run 100000", "tasks")
	for _, n := range []string{"0", "1", "2", "99999", "100000"} {
		tells(t, d, "ran 0\n", "run "+n)
	}
	// Where none goes on, but not all are over.
	d = begun(t, main("chan s r int 1; drain r; close s;"))
	tells(t, d, told("ran 1", "ran 0", "task 0 main waits 1", "ran 0"), "run 9", "run 9", "tasks", "run 0")
}

// P20.1: other numbers: what, and nothing is done.
func TestRunOfWrongNumbers(t *testing.T) {
	d := begun(t, long)
	tells(t, d, "ran 10\n", "run 10")
	before := view(t, d)
	for _, n := range []string{"-1", "-2", "-100000", "100001", "100002", "1000000", "4294967296", "4294967297", "-4294967295", greatest, least} {
		tells(t, d, "what\n", "run "+n)
		if after := view(t, d); after != before {
			t.Fatalf("run %s: %s became %s", n, before, after)
		}
	}
}

// P20.1: as many steps as may be asked for at most, again and again.
func TestRunLong(t *testing.T) {
	d, other := begun(t, long), begun(t, long)
	tells(t, d, told("ran 100000", "ran 99999", "ran 1"), "run 100000", "run 99999", "run 1")
	tells(t, other, told("ran 1", "ran 99999", "ran 100000"), "run 1", "run 99999", "run 100000")
	if a, b := view(t, d), view(t, other); a != b {
		t.Fatal("other steps lead to other things")
	}
	ran := 200000
	for {
		var n int
		if _, err := fmt.Sscanf(does(t, d, "run 100000"), "ran %d\n", &n); err != nil || n > 100000 {
			t.Fatal(n, err)
		}
		ran += n
		if n < 100000 {
			break
		}
	}
	tells(t, d, told("ran 0", "out"+strings.Repeat(" 1", 2*6*6*6*6*6*6)), "run 100000", "out")
	tells(t, d, told("bound "+decimal(ran)), "bound 0")
}

// P20.1: the first task that is ready goes on, again and again: also one that is
// ahead of that which went on, once it is ready again.
func TestRunIsOfTheFirst(t *testing.T) {
	d := begun(t, "stage f(n int) { emit n; emit n; }\n"+main("spawn f(5); spawn f(6); spawn f(7); emit 4; drain in;"))
	plays(t, d, `
		run 4 => ran 4
		out => out 4
		run 3 => ran 3
		tasks => task 0 main over / task 1 f ready / task 2 f ready / task 3 f ready
		run 2 => ran 2
		out => out 4 5 5
		tasks => task 0 main over / task 1 f ready / task 2 f ready / task 3 f ready
		step 3 => steps
		out => out 4 5 5 7
		run 1 => ran 1
		tasks => task 0 main over / task 1 f over / task 2 f ready / task 3 f ready
		run 1 => ran 1
		out => out 4 5 5 7 6
		run 100 => ran 4
		out => out 4 5 5 7 6 6 7`)
	// The main one waits, and goes on as soon as it may.
	d = begun(t, "stage f(s send int, n int) { emit n; send s n; emit n; send s n; emit n; close s; }\n"+
		main("chan s r int 5; spawn f(s, 1); for x from r { emit 10 * x; } drain r; drain in;"))
	does(t, d, "run 1000")
	tells(t, d, "out 1 10 1 10 1\n", "out")
}

// P20.1: other tasks may go on in between: who is over or waits is seen anew.
func TestRunAndStep(t *testing.T) {
	src := "stage f(a recv int, b send int) { for x from a { send b x + 1; } drain a; close b; }\n" +
		main("chan s r int 1; chan u v int 2; spawn f(in, s); spawn f(r, u); for x from v { emit x; } drain v;")
	straight := begun(t, src, 1, 2, 3)
	tells(t, straight, "ran 51\nout 3 4 5\n", "run 1000", "out")
	for n := range 40 {
		d := begun(t, src, 1, 2, 3)
		for k := range 100 {
			does(t, d, "run "+decimal(k*n%4), "step "+decimal((k+n)%4))
		}
		does(t, d, "run 1000")
		tells(t, d, told("out 3 4 5", "ran 0", "task 0 main over", "task 1 f over", "task 2 f over"), "out", "run 1", "tasks")
	}
}

// P20.1: tasks: each with its number, its stage's name, and its state; the channel
// that it waits for.
func TestTasks(t *testing.T) {
	d := begun(t, "stage g(a recv int) { drain a; }\nstage f(s send int, a recv int) { spawn g(a); send s 1; send s 2; close s; }\n"+
		main("chan s r int 1; chan u v int 1; spawn f(s, v); spawn g(r); spawn f(u, in);"))
	plays(t, d, `
		tasks => task 0 main ready
		run 5 => ran 5
		tasks => task 0 main ready / task 1 f ready / task 2 g waits 1 / task 3 f ready
		step 1 => steps
		step 1 => steps
		tasks => task 0 main ready / task 1 f waits 1 / task 2 g ready / task 3 f ready / task 4 g waits 2
		step 3 => steps
		step 3 => steps
		tasks => task 0 main ready / task 1 f waits 1 / task 2 g ready / task 3 f waits 2 / task 4 g ready / task 5 g ready`)
	does(t, d, "run 1000")
	tells(t, d, told("task 0 main over", "task 1 f over", "task 2 g over", "task 3 f over", "task 4 g over", "task 5 g over"), "tasks")
	// Who waits for an end to send, and for one to receive; for the later channel.
	d = begun(t, "stage f(a recv int) { drain a; }\n"+main("chan s r int 1; chan u v int 1; spawn f(v); send s 1; send s 1; close s; close u; drain r; drain in;"))
	tells(t, d, told("ran 4", "task 0 main waits 1", "task 1 f waits 2"), "run 100", "tasks")
}

// P20.1: chans: each with its number, its senders, whether it is there, and how
// many items it has.
func TestChans(t *testing.T) {
	d := begun(t, main("chan s r int 3; send s 1; send s 2; clone z s; close s; close z; drain r; drain in;"), 7, 8)
	plays(t, d, `
		chans => chan 0 0 there 2
		step 0 => steps
		chans => chan 0 0 there 2 / chan 1 1 there 0
		step 0 => steps
		chans => chan 0 0 there 2 / chan 1 1 there 1
		step 0 => steps
		chans => chan 0 0 there 2 / chan 1 1 there 2
		step 0 => steps
		chans => chan 0 0 there 2 / chan 1 2 there 2
		step 0 => steps
		chans => chan 0 0 there 2 / chan 1 1 there 2
		step 0 => steps
		chans => chan 0 0 there 2 / chan 1 0 there 2
		step 0 => steps
		chans => chan 0 0 there 2 / chan 1 0 there 1
		step 0 => steps
		chans => chan 0 0 there 2 / chan 1 0 there 0
		step 0 => steps
		chans => chan 0 0 there 2 / chan 1 0 gone 0
		step 0 => steps
		chans => chan 0 0 there 1 / chan 1 0 gone 0`)
	does(t, d, "run 100")
	tells(t, d, told("chan 0 0 gone 0", "chan 1 0 gone 0"), "chans")
	// Where the end to receive is gone, the senders stay.
	d = begun(t, main("chan s r int 3; send s 1; abandon r; send s 2; drain in;"), 7, 8)
	tells(t, d, told("ran 3", "chan 0 0 there 2", "chan 1 1 gone 0", "ran 1", "chan 0 0 there 2", "chan 1 1 gone 0"), "run 3", "chans", "run 1", "chans")
}

// P20.1: events: each of the kinds that there are, with its task, its place and
// its end, in the order in which they came.
func TestEvents(t *testing.T) {
	src := "stage f(a send int) {\n}\n  stage main(in recv int) { chan s r int 1; close s; send s 5; close s ; clone z s; close z; chan u v int 1; spawn f(u); send u 6; close u; drain in; }"
	at := func(piece string) string { return decimal(strings.Index(src, piece)) }
	want := []string{
		"event sent 0 " + at("send s 5") + " 2",
		"event twice 0 " + at("close s ;") + " 2",
		"event gone 0 " + at("clone z") + " 2",
		"event none 0 " + at("close z") + " -1",
		"event moved 0 " + at("send u 6") + " 4",
		"event owner 0 " + at("close u") + " 4",
		"event leak 0 " + at("stage main") + " 3",
		"event leak 0 " + at("stage main") + " 5",
		"event leak 1 0 4",
	}
	tells(t, begun(t, src), told(append([]string{"ran 20"}, want...)...), "run 1000", "events")
	// As they come: those that were told stay, and more come behind them.
	d := begun(t, src)
	tells(t, d, told(append(append([]string{"ran 2", "ran 1", want[0], "ran 1"}, want[:2]...), append([]string{"ran 2"}, want[:4]...)...)...),
		"run 2", "events", "run 1", "events", "run 1", "events", "run 2", "events")
	tells(t, d, told(want[:4]...), "events")
	does(t, d, "run 1000")
	tells(t, d, told(want...), "events")
}

// P20.1: what is stuck is no event of a desk's.
func TestNoEventOfBeingStuck(t *testing.T) {
	d := begun(t, main("chan s r int 1; drain r; close s;"))
	tells(t, d, told("ran 1", "ran 0", "task 0 main waits 1"), "run 100", "events", "run 100", "events", "tasks")
	if len(events) != api.EventLeak+1 {
		t.Error(events)
	}
}

// P20.1: out: what was emitted, in order.
func TestOut(t *testing.T) {
	d := begun(t, main("emit 1; emit -1; emit 0; for x from in { emit x; } emit 5 * 5; drain in;"), -9223372036854775808, 9223372036854775807)
	for _, want := range []string{"out", "out 1", "out 1 -1", "out 1 -1 0", "out 1 -1 0", "out 1 -1 0 " + least} {
		tells(t, d, want+"\nran 1\n", "out", "run 1")
	}
	tells(t, d, told("out 1 -1 0 "+least, "out 1 -1 0 "+least), "out", "out")
	does(t, d, "run 100")
	tells(t, d, told("out 1 -1 0 "+least+" "+greatest+" 25"), "out")
}

// P20.1: where there are none: no events, nothing emitted. (A task and a channel
// there are always.)
func TestNothingToTell(t *testing.T) {
	d := begun(t, drains)
	tells(t, d, "", "events")
	tells(t, d, "out\n", "out")
	tells(t, d, "task 0 main ready\nchan 0 0 there 0\nout\n", "events", "tasks", "events", "chans", "events", "out")
	does(t, d, "run 100")
	tells(t, d, "task 0 main over\nchan 0 0 gone 0\nout\n", "events", "tasks", "chans", "out")
}
