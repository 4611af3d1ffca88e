package desk

import (
	"strings"
	"testing"

	"pipewright/api"
)

// wide spawns so many tasks; with more than 29 the tree is too large.
func wide(n int) string {
	return "stage f() { }\n" + main(strings.Repeat("spawn f(); ", n)+"drain in;")
}

// crafted is a desk whose program is code that no text says: for what code out of
// texts never shows.
func crafted(ends int, ins ...api.Ins) *Desk {
	vars := []api.Var{{Name: "in", T: "ri"}}
	for k := range ends {
		vars = append(vars, api.Var{Name: "abcdefgh"[k : k+1], T: []string{"si", "ri"}[k%2]})
	}
	ins = append(ins, api.Ins{Op: api.InDrain}, api.Ins{Op: api.InExit})
	proc := api.Proc{Name: "main", Vars: vars, Params: 1, Blocks: []api.Block{{Kind: api.BlockBody}}, Ins: ins}
	return &Desk{said: &program{Code: api.Code{Procs: []api.Proc{proc}}}}
}

// P20.1: judge: each note with its rule, its stage, its instruction and its
// variable, by stages.
func TestNotes(t *testing.T) {
	played(t, `
		|stage f(s send int, r recv int) { close s; if 1 { drain r; } send s 1; drain r; }
		|stage g(a send int) { emit 1; }
		|stage h() { }
		|stage main(in recv int) { chan u v int 1; if 2 { close u; } drain u2; }
		check => no 4:61 none
		judge => what
		new
		|stage f(s send int, r recv int) { close s; if 1 { drain r; } send s 1; drain r; }
		|stage g(a send int) { emit 1; }
		|stage h() { }
		|stage main(in recv int) { chan u v int 1; if 2 { close u; } close u; }
		check => yes 10
		judge => gone f 4 s / maybe f 5 r / left g 1 a / maybe main 4 u / left main 6 v / left main 7 in
		why 0 => way -1 0 1 4
		why 1 => way -1 0 1 2 3 4 5
		why 2 => way -1 0 1
		why 3 => way 0 1 2 3 4
		why 4 => way 0 1 4 5 6
		why 5 => way -1 0 1 4 5 6 7
		why 6 => what`)
}

// P20.1: the four rules' words. (That a name is bound whose end is still there no
// text says: at the end of each block its own names are over.)
func TestRules(t *testing.T) {
	played(t, "|"+main("chan s r int 1; close s; close s; drain in;")+`
		check => yes 4
		judge => gone main 2 s / left main 5 r`)
	played(t, "|"+main("chan s r int 1; if 0 { close s; } else { } close s; drain r; drain in;")+`
		check => yes 6
		judge => maybe main 4 s`)
	bind := api.Ins{Op: api.InChan, A: 1, B: 2, N: 1, T: "i"}
	plays(t, crafted(2, bind, bind), `
		judge => kept main 1 a / kept main 1 b
		why 0 => way 0 1
		why 1 => way 0 1
		why 2 => what`)
	plays(t, crafted(2, bind, api.Ins{Op: api.InIf, E: []api.Push{{Op: api.PushNum}}, To: 3}, api.Ins{Op: api.InClose, A: 1}, bind, api.Ins{Op: api.InOver, A: 2}, api.Ins{Op: api.InOver, A: 0}, api.Ins{Op: api.InAbandon, A: 2}), `
		judge => kept main 3 a / kept main 3 b / left main 4 b / left main 5 in / gone main 6 b / gone main 7 in
		why 4 => way 3 4 5 6`)
}

// P20.1: then each wait of the round, and the ranks where it is fine alone.
func TestRounds(t *testing.T) {
	// A round without notes; one with notes; notes without a round: no ranks.
	played(t, `
		|stage main(in recv int) { chan s r int 1; take x from r { } drain in; close s; drain r; }
		check => yes 5
		judge => round 3 3 by 0 1
		why 0 => what
		new
		|stage main(in recv int) { chan s r int 1; take x from r { } drain in; close s; }
		check => yes 4
		judge => left main 6 r / round 3 3 by 0 1
		why 0 => way 0 1 3 4 5 6
		why 1 => what
		new
		|stage f(a send int) { }
		|stage main(in recv int) { chan s r int 2; spawn f(s); drain r; drain in; }
		check => yes 4
		judge => left f 0 a`)
	// A round of three, each by another task.
	d := has(t, "stage f(a recv int, b send int) { for x from a { send b x; } drain a; close b; }\n"+
		main("chan s r int 1; chan u v int 1; chan w x int 1; spawn f(r, u); spawn f(v, w); spawn f(x, s); drain in;"))
	tells(t, d, told("round 2 4 by 1 1", "round 4 6 by 2 1", "round 6 2 by 3 1"), "judge")
}

// P20.1: fine, and the ranks, two for each channel.
func TestFine(t *testing.T) {
	played(t, `
		|stage f(a recv int, b send int) { for x from a { send b x; } drain a; close b; }
		|stage main(in recv int) { chan s r int 1; chan u v int 2; chan w x int 3; spawn f(in, s); spawn f(r, u); spawn f(v, w); for y from x { emit y; } drain x; }
		check => yes 13
		judge => fine 0 3 1 2 2 1 3 0`)
	played(t, "|"+main("abandon in;")+`
		check => yes 1
		judge => fine 0 0
		why 0 => what`)
}

// P20.1: no, and the word of the fault's code, where the tree is too large; of
// why, whatever it asks for; of bound, too. It may be printed and run all the same.
func TestTooLarge(t *testing.T) {
	plays(t, has(t, wide(29)), `
		judge => fine 0 0
		bound 0 => bound 61
		why 0 => what`)
	for _, src := range []string{wide(30), wide(31), wide(250), many(8) + main("spawn p8(); drain in;")} {
		d := has(t, src)
		plays(t, d, `
			judge => no many
			why 0 => no many
			why 1 => no many
			why -1 => no many
			bound 0 => no many
			bound 5 => no many
			bound -1 => no range
			begin 1 2 => begun
			run 100000 => ran `+strings.TrimSpace(strings.TrimPrefix(does(t, has(t, src), "begin 1 2", "run 100000"), "begun\nran "))+`
			judge => no many`)
		if told := does(t, d, "print"); !strings.HasPrefix(told, "stage ") {
			t.Error(told)
		}
	}
	channels := func(n int) string {
		return "stage f() {\n" + channelsOf(n) + "}\n" + main("spawn f(); spawn f(); drain in;")
	}
	tells(t, has(t, channels(14)), told("fine"+strings.Repeat(" 0", 58)), "judge")
	tells(t, has(t, channels(15)), told("no many"), "judge")
}

// many are stages each of which has two tasks of the one ahead.
func many(n int) string {
	src := "stage p0() { }\n"
	for k := range n {
		a, b := decimal(k), decimal(k+1)
		src += "stage p" + b + "() { spawn p" + a + "(); spawn p" + a + "(); }\n"
	}
	return src
}

// channelsOf makes so many channels, and gets rid of them.
func channelsOf(n int) string {
	src := ""
	for k := range n {
		a, b := "a"+decimal(k), "b"+decimal(k)
		src += "chan " + a + " " + b + " int 1; close " + a + "; abandon " + b + ";\n"
	}
	return src
}
