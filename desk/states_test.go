package desk

import (
	"slices"
	"strings"
	"testing"

	"pipewright/api"
)

// P20.1: where there is no program: what, but for check and new.
func TestNoProgram(t *testing.T) {
	nothing(t, New())
	d := New()
	tells(t, d, "", "|"+drains)
	nothing(t, d) // it is written alone
	tells(t, d, "yes 1\n", "check")
	tells(t, d, "", "new")
	nothing(t, d)
	tells(t, d, "no 1:1 short\n", "check")
	nothing(t, d)
	tells(t, d, "", "new", "new")
	nothing(t, d)
}

// P20.1: where there is one, and nothing is run.
func TestNothingIsRun(t *testing.T) {
	d := has(t, drains)
	notRun(t, d)
	tells(t, d, told("fine 0 0", "what", "bound 4", "stage main(in recv int) {", "\tdrain in;", "}"), "judge", "why 0", "bound 1", "print")
	notRun(t, d)
	tells(t, d, "no many\n", "begin"+strings.Repeat(" 1", api.MaxInputs+1))
	notRun(t, d)
	tells(t, d, "yes 1\n", "check")
	notRun(t, d)
}

// P20.1: where something is run.
func TestIsRun(t *testing.T) {
	d := begun(t, main("chan s r int 1; close s; close s; emit 7; drain in;"), 5)
	tells(t, d, told("gone main 2 s", "left main 6 r", "way 0 1 2", "way 0 1 2 3 4 5 6", "bound 10"), "judge", "why 0", "why 1", "bound 1")
	tells(t, d, told("steps", "stays", "ran 2", "task 0 main ready", "chan 0 0 there 1", "chan 1 0 there 0", "event twice 0 51 2", "out"),
		"step 0", "step 1", "run 2", "tasks", "chans", "events", "out")
	// What is asked of the program leaves that as it is.
	tells(t, d, told("gone main 2 s", "left main 6 r", "way 0 1 2", "bound 10", "event twice 0 51 2"), "judge", "why 0", "bound 1", "events")
	does(t, d, "print")
	tells(t, d, told("ran 1", "out 7"), "run 1", "out")
}

// P20.1: behind a new check, right or wrong, nothing is run; behind a wrong one
// there is no program, but the text stays.
func TestCheckAnew(t *testing.T) {
	d := begun(t, drains, 5)
	tells(t, d, "yes 1\n", "check")
	notRun(t, d)
	tells(t, d, "begun\n", "begin 5")
	tells(t, d, "no 2:1 form\n", "|}", "check")
	nothing(t, d)
	tells(t, d, "no 2:1 form\n", "check")
	nothing(t, d)
	// And the program is the text's then, not what it was.
	d = begun(t, drains, 5)
	tells(t, d, told("bound 4"), "|stage f() { }", "bound 1")
	tells(t, d, "no 1:1 main\n", "new", "|stage f() { }", "check")
	nothing(t, d)
	d = begun(t, "stage f() { }\n"+drains, 5)
	tells(t, d, told("yes 3", "fine 0 0", "bound 6"), "|stage g() { emit 1; emit 2; }", "check", "judge", "bound 3")
	notRun(t, d)
}

// P20.1: what is written, once something is checked and run, changes none of that.
func TestWrittenBehind(t *testing.T) {
	d := begun(t, main("drain in; emit 3;"), 5)
	before := view(t, d)
	tells(t, d, "", "|stage f() { }", "|?", "|")
	if after := view(t, d); after != before {
		t.Fatalf("%s became %s", before, after)
	}
	tells(t, d, told("ran 5", "out 3", "no 3:1 text", "what"), "run 9", "out", "check", "out")
}

// P20.1: new: nothing is there any more: neither text nor program nor what is run.
func TestNew(t *testing.T) {
	for _, ahead := range [][]string{nil, {"|x"}, {"|" + drains, "check"}, {"|" + drains, "check", "begin"}, {"|" + drains, "check", "begin 4 5", "run 3", "|x"}, {"|x", "check"}, {"|" + strings.Repeat("x", api.MaxText-1), "|x"}, {"|"}} {
		d := New()
		does(t, d, ahead...)
		tells(t, d, "", "new")
		nothing(t, d)
		tells(t, d, "no 1:1 short\n", "check")
		nothing(t, d)
		// It is as one that New made.
		tells(t, d, told("yes 1", "what", "fine 0 0", "begun", "ran 3", "task 0 main over"), "|"+drains, "check", "run 1", "judge", "begin", "run 9", "tasks")
	}
}

// P20.1: begin that goes wrong: what was run stays; each other one begins anew.
func TestBeginAnew(t *testing.T) {
	d := begun(t, main("emit 1; drain in; emit 2;"), 5, 6)
	tells(t, d, told("ran 3", "out 1", "task 0 main ready", "chan 0 0 there 0"), "run 3", "out", "tasks", "chans")
	before := view(t, d)
	for _, line := range []string{"begin" + strings.Repeat(" 1", api.MaxInputs+1), "begin" + strings.Repeat(" -9", 3*api.MaxInputs)} {
		tells(t, d, "no many\n", line)
		if after := view(t, d); after != before {
			t.Fatalf("%s became %s", before, after)
		}
	}
	for _, line := range []string{"begin x", "begin 1 2 -0", "begins", "Begin 1", "begin" + strings.Repeat(" 1", api.MaxInputs+1) + " x"} {
		tells(t, d, "what\n", line)
		if after := view(t, d); after != before {
			t.Fatalf("%s became %s", before, after)
		}
	}
	tells(t, d, told("ran 4", "out 1 2"), "run 99", "out")
	tells(t, d, told("begun", "out", "chan 0 0 there 1", "task 0 main ready", "ran 6", "out 1 2"), "begin 9", "out", "chans", "tasks", "run 99", "out")
	tells(t, d, told("begun", "begun", "begun", "chan 0 0 there 3"), "begin", "begin 1 2", "begin 1 2 3", "chans")
}

// P20.1: all that the tables have, in any state, tells what or something of its
// own; a line that tells what does nothing.
func TestWhatDoesNothing(t *testing.T) {
	states := [][]string{nil, {"|" + drains}, {"|" + drains, "check"}, {"|" + drains, "check", "begin 4", "run 2"}, {"|" + main("chan s r int 1; close s; close s; drain in;"), "check", "begin 4", "run 5"}}
	for n, ahead := range states {
		for _, line := range slices.Concat(all, []string{"what", "new 1", "why -1", "run -1", "run 100001", "step x", "begin x"}) {
			d := New()
			does(t, d, ahead...)
			before := view(t, d)
			if does(t, d, line) != "what\n" {
				continue
			}
			if after := view(t, d); after != before {
				t.Fatalf("%d: %s: %s became %s", n, line, before, after)
			}
			again := New()
			does(t, again, ahead...)
			if a, b := does(t, d, all...), does(t, again, all...); a != b {
				t.Fatalf("%d: %s: %s, and %s", n, line, a, b)
			}
		}
	}
}
