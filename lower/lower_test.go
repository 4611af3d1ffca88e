package lower

import (
	"fmt"
	"reflect"
	"strings"
	"testing"

	"pipewright/api"
	"pipewright/kinds"
	"pipewright/syntax"
)

// P6.1: the chapter's example, whole.
func TestExample(t *testing.T) {
	c := lowered(t, "stage main(in recv int) { for x from in { emit x; } drain in; }")
	want := api.Code{Procs: []api.Proc{{
		Name:   "main",
		Vars:   []api.Var{{Name: "in", T: "ri"}, {Name: "x", T: "i"}},
		Params: 1,
		Blocks: []api.Block{{Kind: api.BlockBody}, {Kind: api.BlockFor}},
		Ins: []api.Ins{
			{Op: api.InTake, A: 1, To: 3, Loop: 1, At: 26},
			{Op: api.InEmit, E: []api.Push{{Op: api.PushVar, N: 1}}, Block: 1, At: 42},
			{Op: api.InJump, Block: 1, At: 26},
			{Op: api.InDrain, At: 52},
			{Op: api.InOver},
			{Op: api.InExit},
		},
	}}}
	if !sameCode(c, want) {
		t.Errorf("%+v, want %+v", c, want)
	}
}

// P6.1: each row of the table, alone.
func TestEachStatement(t *testing.T) {
	for _, c := range []struct{ stmts, vars, blocks, ins string }{
		{"", "", "", "0 over @stage4"},
		{"let x = 3;", "x i", "", `
			0 let A1 (3) @let
			1 over @stage4`},
		{"let x = 3; set x = x + 4;", "x i", "", `
			0 let A1 (3) @let
			1 let A1 (v1 4 +) @set
			2 over @stage4`},
		{"emit 5;", "", "", `
			0 emit (5) @emit
			1 over @stage4`},
		{"chan s r send int 4;", "s ssi, r rsi", "", `
			0 chan A1 B2 N4 si @chan
			1 over A1 @stage4
			2 over A2 @stage4
			3 over @stage4`},
		{"chan s r int 1; clone c s;", "s si, r ri, c si", "", `
			0 chan A1 B2 N1 i @chan
			1 clone A3 B1 @clone
			2 over A1 @stage4
			3 over A2 @stage4
			4 over A3 @stage4
			5 over @stage4`},
		{"chan s r int 1; send s 2 * 3;", "s si, r ri", "", `
			0 chan A1 B2 N1 i @chan
			1 send A1 (2 3 *) @send2
			2 over A1 @stage4
			3 over A2 @stage4
			4 over @stage4`},
		{"chan s r recv int 1; send s in;", "s sri, r rri", "", `
			0 chan A1 B2 N1 ri @chan
			1 give A1 @send2
			2 over A1 @stage4
			3 over A2 @stage4
			4 over @stage4`},
		{"chan s r int 1; close s; abandon r; drain in;", "s si, r ri", "", `
			0 chan A1 B2 N1 i @chan
			1 close A1 @close
			2 abandon A2 @abandon
			3 drain @drain
			4 over A1 @stage4
			5 over A2 @stage4
			6 over @stage4`},
		{"spawn none(); spawn f(7);", "", "", `
			0 spawn @spawn
			1 spawn A1 arg(7) @spawn2
			2 over @stage4`},
		{"chan s r recv int 1; let x = 1; spawn g(x - 1, in, s, x);", "s sri, r rri, x i", "", `
			0 chan A1 B2 N1 ri @chan
			1 let A3 (1) @let
			2 spawn A2 arg(v3 1 -) arg0 arg1 arg(v3) @spawn
			3 over A1 @stage4
			4 over A2 @stage4
			5 over @stage4`},
		{"take x from in { emit x; } else { emit 2; }", "x i", "then, else", `
			0 take A1 To3 @take
			1 emit (v1) Block1 @emit
			2 jump To4 Block1 @take
			3 emit (2) Block2 @emit2
			4 over @stage4`},
		{"for x from in { emit x; }", "x i", "for", `
			0 take A1 To3 Loop1 @for
			1 emit (v1) Block1 @emit
			2 jump Block1 @for
			3 over @stage4`},
		{"repeat 3 { emit 1; }", "i", "repeat N3", `
			0 turns A1 (3) @repeat
			1 count A1 To4 Loop1 @repeat
			2 emit (1) Block1 @emit
			3 jump To1 Block1 @repeat
			4 over @stage4`},
		{"if 1 < 2 { emit 3; } else { emit 4; }", "", "then, else", `
			0 if (1 2 <) To3 @if
			1 emit (3) Block1 @emit
			2 jump To4 Block1 @if
			3 emit (4) Block2 @emit2
			4 over @stage4`},
	} {
		vars := strings.TrimSuffix("in ri, "+c.vars, ", ")
		blocks := strings.TrimSuffix("body, "+c.blocks, ", ")
		exit := len(strings.Split(strings.TrimSpace(c.ins), "\n"))
		wantMain(t, c.stmts, vars, blocks, c.ins+fmt.Sprintf("\n%d exit @stage4", exit))
	}
}

// P6.1: blocks without statements are blocks, too; what stands behind an Else
// that has none is its first.
func TestEmptyBlocks(t *testing.T) {
	wantMain(t, "take x from in { }", "in ri, x i", "body, then, else", `
		0 take A1 To2 @take
		1 jump To2 Block1 @take
		2 over @stage4
		3 exit @stage4`)
	wantMain(t, "take x from in { } else { emit 1; }", "in ri, x i", "body, then, else", `
		0 take A1 To2 @take
		1 jump To3 Block1 @take
		2 emit (1) Block2 @emit
		3 over @stage4
		4 exit @stage4`)
	wantMain(t, "take x from in { emit 1; }", "in ri, x i", "body, then, else", `
		0 take A1 To3 @take
		1 emit (1) Block1 @emit
		2 jump To3 Block1 @take
		3 over @stage4
		4 exit @stage4`)
	wantMain(t, "for x from in { }", "in ri, x i", "body, for", `
		0 take A1 To2 Loop1 @for
		1 jump Block1 @for
		2 over @stage4
		3 exit @stage4`)
	wantMain(t, "repeat 0 { }", "in ri, i", "body, repeat", `
		0 turns A1 (0) @repeat
		1 count A1 To3 Loop1 @repeat
		2 jump To1 Block1 @repeat
		3 over @stage4
		4 exit @stage4`)
	wantMain(t, "if 0 { }", "in ri", "body, then, else", `
		0 if (0) To2 @if
		1 jump To2 Block1 @if
		2 over @stage4
		3 exit @stage4`)
	wantMain(t, "if 0 { } else { emit 1; }", "in ri", "body, then, else", `
		0 if (0) To2 @if
		1 jump To3 Block1 @if
		2 emit (1) Block2 @emit
		3 over @stage4
		4 exit @stage4`)
	wantProc(t, "stage main(in recv int) { } stage a() { }", "", "body", "0 exit @stage2")
}

// P6.1: blocks within one another.
func TestNested(t *testing.T) {
	wantMain(t, `
		for a from in {
			repeat a {
				if a { take b from in { emit b; } else { for c from in { } } } else { repeat 9 { set a = 1; } }
				emit 2;
			}
		}
		repeat 2 { if 1 { } }`,
		"in ri, a i, b i, c i, i, i, i",
		"body, for, repeat in1 N6, then in2, then in3, else in3, for in5, else in2, repeat in7 N6, repeat N2, then in9, else in9", `
		0 take A1 To17 Loop1 @for
		1 turns A4 (v1) Block1 @repeat
		2 count A4 To16 Block1 Loop2 @repeat
		3 if (v1) To10 Block2 @if
		4 take A2 To7 Block3 @take
		5 emit (v2) Block4 @emit
		6 jump To9 Block4 @take
		7 take A3 To9 Block5 Loop6 @for2
		8 jump To7 Block6 @for2
		9 jump To14 Block3 @if
		10 turns A5 (9) Block7 @repeat2
		11 count A5 To14 Block7 Loop8 @repeat2
		12 let A1 (1) Block8 @set
		13 jump To11 Block8 @repeat2
		14 emit (2) Block2 @emit2
		15 jump To2 Block2 @repeat
		16 jump Block1 @for
		17 turns A6 (2) @repeat3
		18 count A6 To22 Loop9 @repeat3
		19 if (1) To21 Block9 @if2
		20 jump To21 Block10 @if2
		21 jump To18 Block9 @repeat3
		22 over @stage4
		23 exit @stage4`)
}

// P6.1: the ends that a block's own statements bind are over at its end, in
// their order, those within blocks within at theirs; then what take and for
// bind; numbers never.
func TestOver(t *testing.T) {
	const ends = "stage main(in recv int) { } stage a(p send int, n int, e recv recv int, q send send int) { "
	wantProc(t, ends+`
		let x = 1;
		chan s r int 1;
		take t from e {
			let y = 2;
			clone u s;
			if 1 { chan v w int 1; } else { clone z q; let k = 1; }
			chan l m int 2;
		} else { clone o p; }
		for h from e { clone j p; }
		repeat 1 { chan b c int 1; }
		clone d q;
	}`,
		"p si, n i, e rri, q ssi, x i, s si, r ri, t ri, y i, u si, v si, w ri, z ssi, k i, l si, m ri, o si, h ri, j si, b si, c ri, d ssi, i",
		"body, then, then in1, else in1, else, for A2, repeat N1", `
		0 let A4 (1) @let
		1 chan A5 B6 N1 i @chan
		2 take A7 B2 To19 @take
		3 let A8 (2) Block1 @let2
		4 clone A9 B5 Block1 @clone
		5 if (1) To10 Block1 @if
		6 chan A10 B11 N1 i Block2 @chan2
		7 over A10 Block2 @if
		8 over A11 Block2 @if
		9 jump To13 Block2 @if
		10 clone A12 B3 Block3 @clone2
		11 let A13 (1) Block3 @let3
		12 over A12 Block3 @if
		13 chan A14 B15 N2 i Block1 @chan3
		14 over A9 Block1 @take
		15 over A14 Block1 @take
		16 over A15 Block1 @take
		17 over A7 Block1 @take
		18 jump To21 Block1 @take
		19 clone A16 Block4 @clone3
		20 over A16 Block4 @take
		21 take A17 B2 To26 Loop5 @for
		22 clone A18 Block5 @clone4
		23 over A18 Block5 @for
		24 over A17 Block5 @for
		25 jump To21 Block5 @for
		26 turns A22 (1) @repeat
		27 count A22 To32 Loop6 @repeat
		28 chan A19 B20 N1 i Block6 @chan4
		29 over A19 Block6 @repeat
		30 over A20 Block6 @repeat
		31 jump To27 Block6 @repeat
		32 clone A21 B3 @clone5
		33 over A5 @stage2
		34 over A6 @stage2
		35 over A21 @stage2
		36 over @stage2
		37 over A2 @stage2
		38 over A3 @stage2
		39 exit @stage2`)
	wantProc(t, ends+"take t from e { } for h from e { }"+" }", "p si, n i, e rri, q ssi, t ri, h ri", "body, then, else, for A2", `
		0 take A4 B2 To3 @take
		1 over A4 Block1 @take
		2 jump To3 Block1 @take
		3 take A5 B2 To6 Loop3 @for
		4 over A5 Block3 @for
		5 jump To3 Block3 @for
		6 over @stage2
		7 over A2 @stage2
		8 over A3 @stage2
		9 exit @stage2`)
}

// P6.1: the variables: parameters, then what the statements bind, then one for
// each repeat, in order.
func TestVariables(t *testing.T) {
	c := lowered(t, `
		stage none() { }
		stage reps() { repeat 1 { repeat 2 { } } repeat 3 { } }
		stage nums(a int, b int) { let c = a; }
		stage main(in recv int) { repeat 1 { let x = 1; repeat x { chan s r int 1; } } take y from in { repeat 2 { } } else { let z = 1; repeat z { } } }`)
	for i, want := range []struct {
		name, vars string
		params     int
	}{
		{"none", "", 0},
		{"reps", "i, i, i", 0},
		{"nums", "a i, b i, c i", 2},
		{"main", "in ri, x i, s si, r ri, y i, z i, i, i, i, i", 1},
	} {
		p := c.Procs[i]
		if p.Name != want.name || p.Params != want.params || toldVars(p) != want.vars {
			t.Errorf("%d: %s, %d parameters, %s; want %v", i, p.Name, p.Params, toldVars(p), want)
		}
	}
	want := map[string]string{"reps": "0 1 2", "main": "6 7 8 9"}
	for _, p := range c.Procs {
		var turns, counts []string
		for _, ins := range p.Ins {
			switch ins.Op {
			case api.InTurns:
				turns = append(turns, fmt.Sprint(ins.A))
			case api.InCount:
				counts = append(counts, fmt.Sprint(ins.A))
			}
		}
		if got := strings.Join(turns, " "); got != want[p.Name] || got != strings.Join(counts, " ") {
			t.Errorf("%s: turns %v, counts %v, want %v", p.Name, turns, counts, want[p.Name])
		}
	}
}

// P6.1: expressions as steps: parts from the left, then themselves.
func TestSteps(t *testing.T) {
	for _, c := range [][2]string{
		{"0", "0"},
		{"999999999999999999", "999999999999999999"},
		{"x", "v1"},
		{"y", "v2"},
		{"-x", "v1 neg"},
		{"--3", "3 neg neg"},
		{"1 + 2", "1 2 +"},
		{"1 - 2", "1 2 -"},
		{"1 * 2", "1 2 *"},
		{"1 < 2", "1 2 <"},
		{"1 == 2", "1 2 =="},
		{"1 - 2 - 3", "1 2 - 3 -"},
		{"1 - (2 - 3)", "1 2 3 - -"},
		{"x + y * 2", "v1 v2 2 * +"},
		{"(x + y) * 2", "v1 v2 + 2 *"},
		{"-(x + -y) * (3 - x) < y == x", ""},
		{"(-(x + -y) * (3 - x) < y) == (x < 1)", "v1 v2 neg + neg 3 v1 - * v2 < v1 1 < =="},
	} {
		src := "stage f(a int, b recv int, c int) { } stage main(in recv int) { let x = 1; let y = 2; chan s r int 1; " +
			"let z = E; set z = E; emit E; send s E; spawn f(E, in, E); repeat E { } if E { } }"
		p, f := syntax.Parse(strings.ReplaceAll(src, "E", c[0]))
		if c[1] == "" {
			if f.Code != api.ErrForm {
				t.Errorf("%q may stand as a text", c[0])
			}
			continue
		}
		seen := 0
		for _, ins := range right(t, p).Procs[1].Ins[3:] {
			lists := [][]api.Push{ins.E}
			for _, arg := range ins.Args {
				lists = append(lists, arg.E)
			}
			for _, steps := range lists {
				if len(steps) == 0 {
					continue
				}
				seen++
				if got := toldSteps(steps); got != c[1] {
					t.Errorf("%s of %q: %q, want %q", ops[ins.Op], c[0], got, c[1])
				}
			}
		}
		if seen != 8 {
			t.Errorf("%q is in %d places", c[0], seen)
		}
	}
}

// P6.1: send of each type.
func TestSends(t *testing.T) {
	for _, of := range []string{"int", "recv int", "send int", "recv recv int", "send recv int", "recv send int", "send send int"} {
		src := "stage main(in recv int) { } stage a(n int, x T, s send T, m int) { send s x; }"
		if of == "int" {
			wantProc(t, strings.ReplaceAll(src, "T", of), "n i, x i, s si, m i", "body", `
				0 send A2 (v1) @send2
				1 over A2 @stage2
				2 exit @stage2`)
			continue
		}
		c := lowered(t, strings.ReplaceAll(src, "T", of))
		if got := toldIns(c.Procs[1].Ins[0]); got != "give A2 B1" {
			t.Errorf("send of %s: %s", of, got)
		}
	}
}

// P6.1: a spawn names the stage's number, wherever that stands above.
func TestSpawns(t *testing.T) {
	src := "stage main(in recv int) { } stage s0(e recv int, n int) { } stage s1(n int, e recv int) { spawn s0(e, n); spawn main(e); }" +
		" stage s2(a recv int, b int, c recv int, d int) { spawn s0(c, d); spawn s1(b + d, a); spawn main(c); }"
	c := lowered(t, src)
	for i, want := range []string{
		"over | exit",
		"over | exit",
		"spawn A1 arg1 arg(v0) | spawn arg1 | over A1 | exit",
		"spawn A1 arg2 arg(v3) | spawn A2 arg(v1 v3 +) arg0 | spawn arg2 | over | over A2 | exit",
	} {
		var got []string
		for _, ins := range c.Procs[i].Ins {
			got = append(got, toldIns(ins))
		}
		if strings.Join(got, " | ") != want {
			t.Errorf("%d: %q, want %s", i, got, want)
		}
	}
	// Of a type that is an end there is V alone, of i there is E alone.
	args := c.Procs[3].Ins[1].Args
	if len(args) != 2 || args[0].V != 0 || len(args[1].E) != 0 {
		t.Errorf("%v", args)
	}
}

// P6.1: Main is the number of the stage main, wherever it stands.
func TestMain(t *testing.T) {
	for n := range api.MaxStages {
		src := ""
		for i := range api.MaxStages {
			if i == n {
				src += "stage main(in recv int) { } "
			} else {
				src += fmt.Sprintf("stage s%d(in recv int) { } ", i)
			}
		}
		if c := lowered(t, src); c.Main != n || c.Procs[n].Name != "main" {
			t.Errorf("Main %d, want %d", c.Main, n)
		}
	}
}

// P6.1: N of a repeat's block.
func TestRepeats(t *testing.T) {
	for _, c := range []struct {
		e string
		n int
	}{
		{"0", 0}, {"1", 1}, {"2", 2}, {"5", 5}, {"6", 6}, {"7", 6}, {"100", 6}, {"999999999999999999", 6},
		{"(3)", 3}, {"((0))", 0}, {"-1", 6}, {"-0", 6}, {"--2", 6}, {"1 + 1", 6}, {"0 * 5", 6}, {"1 - 1", 6}, {"1 < 0", 6}, {"x", 6}, {"x - x", 6},
	} {
		p := lowered(t, "stage main(in recv int) { let x = 2; repeat "+c.e+" { } }").Procs[0]
		if got := p.Blocks[1]; got != (api.Block{Kind: api.BlockRepeat, N: c.n}) {
			t.Errorf("repeat %s: %v, want N %d", c.e, got, c.n)
		}
	}
}

// P6.1: A of a for's block is what it takes from.
func TestFors(t *testing.T) {
	wantProc(t, "stage main(in recv int) { } stage a(n int, p recv int, q recv send int) { for x from q { for y from p { } } }",
		"n i, p ri, q rsi, x si, y i", "body, for A2, for in1 A1", `
		0 take A3 B2 To5 Loop1 @for
		1 take A4 B1 To3 Block1 Loop2 @for2
		2 jump To1 Block2 @for2
		3 over A3 Block1 @for
		4 jump Block1 @for
		5 over A1 @stage2
		6 over A2 @stage2
		7 exit @stage2`)
}

// P6.1: At is a statement's, or a stage's, own, whatever it is.
func TestPlaces(t *testing.T) {
	p := parsed(t, above+"stage main(in recv int) { take x from in { chan s r int 1; } else { emit 1; } repeat 1 { chan b c int 1; } }")
	want := []int{-1, 7, -1, -1, -1, 0, -5, -5, 1 << 60, -5, -5, -5, 3, 3}
	stmts := stmtsOf(&p)
	for i, at := range []int{-1, 7, 0, -5, 1 << 60} {
		stmts[i].At = at
	}
	p.Stages[3].At = 3
	var got []int
	for _, ins := range right(t, p).Procs[3].Ins {
		got = append(got, ins.At)
	}
	if !reflect.DeepEqual(got, want) {
		t.Errorf("places %v, want %v", got, want)
	}
}

// P6.1: with kinds.Check's fault there is nothing else.
func TestFaultsOfKinds(t *testing.T) {
	deep := op(api.OpNum)
	for range 1 << 16 {
		deep = op(api.OpNeg, deep)
	}
	programs := []api.Program{
		{},
		{Stages: make([]api.Stage, api.MaxStages+1)},
		{Stages: []api.Stage{{Name: "main", Body: []api.Stmt{{Do: api.DoEmit, E: es(deep)}}}}},
		{Stages: []api.Stage{{Name: "main", Body: make([]api.Stmt, 3)}}},
	}
	for _, src := range []string{
		"stage a() { }",
		"stage main() { }",
		"stage main(in recv int) { } stage main(in recv int) { }",
		"stage main(in recv int) { emit x; }",
		"stage main(in recv int) { send in 1; }",
		"stage main(in recv int) { spawn main(in); }",
		"stage main(in recv int) { chan a b int 6; }",
		"stage main(in recv int) { } stage b() { take x from y { } }",
		"stage main(in recv int) { take x from in { } emit x; }",
	} {
		programs = append(programs, parsed(t, src))
	}
	for _, p := range programs {
		want := kinds.Check(p)
		c, f := Lower(p)
		if want.Code == 0 || f != want || len(c.Procs) != 0 || c.Main != 0 {
			t.Errorf("Lower(%s): %v %v, want %v alone", shown(p), c, f, want)
		}
	}
}
