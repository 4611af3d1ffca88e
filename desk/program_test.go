package desk

import (
	"math"
	"slices"
	"strings"
	"testing"

	"pipewright/api"
	"pipewright/syntax"
)

// P20.1: why N: the way of the N-th note, from 0 on; what: there is no such note.
func TestWhy(t *testing.T) {
	d := has(t, "stage f(s send int) { }\n"+main("chan s r int 1; close s; close s; drain in; emit 1;"))
	tells(t, d, told("left f 0 s", "gone main 2 s", "left main 6 r"), "judge")
	ways := []string{"way -1 0", "way 0 1 2", "way 0 1 2 3 4 5 6"}
	for n, way := range ways {
		tells(t, d, way+"\n", "why "+decimal(n))
	}
	for _, n := range append([]string{"3", "4", "-1", "-2", "-3", "4294967296", "4294967297", "-4294967295"}, greatest, least, "9223372036854775806") {
		tells(t, d, "what\n", "why "+n)
	}
	// In any order, and again.
	tells(t, d, told(ways[2], ways[0], "what", ways[1], ways[0], "left f 0 s", "gone main 2 s", "left main 6 r"), "why 2", "why 0", "why 3", "why 1", "why 0", "judge")
}

// P20.1: the word of explain.Why's fault: a note that no way shows, of what no text
// says.
func TestWhyWithoutAWay(t *testing.T) {
	d := crafted(2, api.Ins{Op: api.InClose, A: 1}, api.Ins{Op: api.InChan, A: 1, B: 2, N: 1, T: "i"}, api.Ins{Op: api.InOver, A: 1})
	plays(t, d, `
		judge => gone main 0 a / left main 2 a
		why 0 => no none
		why 1 => way 1 2
		why 2 => what
		why -1 => what`)
}

// P20.1: bound N: how many steps at most, with N that come in.
func TestBound(t *testing.T) {
	d := has(t, drains)
	for n, want := range map[string]string{"0": "3", "1": "4", "2": "5", "1000": "1003", "1001": "1004", "2147483648": "2147483651",
		"1099511627772": "1099511627775", "1099511627773": "1099511627776", "1099511627774": "1099511627776", "1099511627776": "1099511627776",
		greatest: "1099511627776", "9223372036854775806": "1099511627776"} {
		tells(t, d, "bound "+want+"\n", "bound "+n)
	}
	for _, n := range []string{"-1", "-2", "-1000", "-4294967295", least} {
		tells(t, d, "no range\n", "bound "+n)
	}
	d = has(t, main("repeat 3 { emit 1; } abandon in;"))
	for _, n := range []string{"0", "1", "1000", greatest} {
		tells(t, d, "bound 14\n", "bound "+n)
	}
	// No bound is known, even of none: two tasks hand on for ever what they get.
	d = has(t, "stage f(a recv int, b send int) { for x from a { send b x; } drain a; close b; }\n"+
		main("chan s r int 1; chan u v int 1; send u 1; spawn f(r, u); spawn f(v, s); drain in;"))
	tells(t, d, "bound 1099511627776\nbound 1099511627776\n", "bound 0", "bound 7")
	if api.Cap != 1099511627776 {
		t.Error(api.Cap)
	}
}

// P20.1: print: the text, and nothing behind it.
func TestPrint(t *testing.T) {
	src := "stage f(a recv send int,b int){if b<2{for x from a{close x;}}else{drain a;}}stage main(in recv int){drain in;}"
	want := `stage f(a recv send int, b int) {
	if b < 2 {
		for x from a {
			close x;
		}
	} else {
		drain a;
	}
}
stage main(in recv int) {
	drain in;
}
`
	d := has(t, src)
	tells(t, d, want, "print")
	tells(t, d, want+want+"bound 3\n"+want, "print", "print", "bound 0", "print")
}

// P20.1: print: that can be said and checked again, and prints the same; of all
// programs that are drawn.
func TestPrintAgain(t *testing.T) {
	for _, src := range slices.Concat(tidied(1, 150), woven(2, 150), scribbled(3, 150)) {
		d := has(t, src)
		printed := does(t, d, "print")
		again := has(t, strings.TrimSuffix(printed, "\n"))
		lines := []string{"print", "judge", "why 0", "why 1", "bound 3", "begin 1 2", "run 100", "tasks", "chans", "out"}
		if a, b := does(t, d, lines...), does(t, again, lines...); a != b {
			t.Fatalf("%s tells\n%s, and %s\n%s", src, a, printed, b)
		}
		p, f := syntax.Parse(src)
		q, g := syntax.Parse(printed)
		if f.Code != 0 || g.Code != 0 || !syntax.Same(p, q) {
			t.Fatalf("%s is not %s", src, printed)
		}
	}
}

// P20.1: print: also of what is written since.
func TestPrintIsOfTheProgram(t *testing.T) {
	played(t, `
		|stage main(in recv int) { }
		check => yes 0
		|stage f() { }
		print => stage main(in recv int) { / }
		begin => begun
		print => stage main(in recv int) { / }
		check => yes 0
		print => stage main(in recv int) { / } / stage f() { / }`)
}

// P20.1: begin: with none, some, as many numbers as may come in, and one more.
func TestBegin(t *testing.T) {
	d := has(t, main("for x from in { emit x; } drain in;"))
	for _, n := range []int{0, 1, 2, 5, 999, api.MaxInputs} {
		numbers := ""
		for k := range n {
			numbers += " " + decimal(3*k-n)
		}
		ran := 3*n + 4 // three for each, one more take, one to drain, one over and one exit
		tells(t, d, told("begun", "chan 0 0 there "+decimal(n), "ran "+decimal(ran), "out"+numbers), "begin"+numbers, "chans", "run 100000", "out")
	}
	for _, n := range []int{api.MaxInputs + 1, api.MaxInputs + 2, 2 * api.MaxInputs, (api.MaxText - 5) / 2} {
		tells(t, d, "no many\nchan 0 0 gone 0\n", "begin"+strings.Repeat(" 1", n), "chans")
	}
	tells(t, d, told("begun", "ran 7", "out -1"), "begin -1", "run 100", "out")
	// The numbers are those of 64 bits, and wrap round as they are reckoned with.
	d = has(t, main("for x from in { emit x + 1; emit x - 1; emit -x; } drain in;"))
	tells(t, d, told("begun", "ran 14", "out "+least+" 9223372036854775806 -9223372036854775807 -9223372036854775807 "+greatest+" "+least),
		"begin "+greatest+" "+least, "run 100", "out")
	if math.MaxInt64 != 9223372036854775807 {
		t.Error(greatest)
	}
}
