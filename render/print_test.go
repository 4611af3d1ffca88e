package render

import (
	"strings"
	"testing"

	"pipewright/api"
	"pipewright/syntax"
)

// sample has each kind of statement, Else that stands and that doesn't, types
// of all ends, and all that expressions are made of. sampleText is its text.
func sample() api.Program {
	x := name("x")
	return stages(
		api.Stage{
			Name:   "copy",
			Params: []api.Param{{Name: "from1", T: "ri"}, {Name: "to", T: "si"}},
			Body: []api.Stmt{
				{Do: api.DoFor, A: "x", B: "from1", Body: []api.Stmt{{Do: api.DoSend, A: "to", E: es(x)}}},
				{Do: api.DoClose, A: "to"},
				{Do: api.DoDrain, A: "from1"},
			},
		},
		api.Stage{Name: "none"},
		api.Stage{
			Name:   "main",
			Params: []api.Param{{Name: "in", T: "ri"}, {Name: "out", T: "srsi"}, {Name: "n", T: "i"}},
			Body: []api.Stmt{
				{Do: api.DoLet, A: "y", E: es(op(api.OpEq, op(api.OpMul, neg(name("n")), op(api.OpAdd, num(2), num(3))), num(4)))},
				{Do: api.DoSet, A: "y", E: es(op(api.OpLess, name("y"), num(2)))},
				{Do: api.DoChan, A: "s", B: "r", T: "i", N: 1},
				{Do: api.DoChan, A: "p", B: "q", T: "rsi", N: 999999999999999999},
				{Do: api.DoClone, A: "t", B: "s"},
				{Do: api.DoSpawn, A: "copy", E: es(name("in"), name("s"))},
				{Do: api.DoSpawn, A: "none"},
				{
					Do: api.DoTake, A: "z", B: "r",
					Body: []api.Stmt{{Do: api.DoRepeat, E: es(num(3)), Body: []api.Stmt{emit(x), emit(neg(x))}}},
					Else: []api.Stmt{
						{Do: api.DoAbandon, A: "r"},
						{Do: api.DoIf, E: es(x), Else: []api.Stmt{emit(op(api.OpSub, x, num(0)))}},
					},
				},
				{Do: api.DoTake, A: "z", B: "r"},
				{Do: api.DoDrain, A: "q"},
			},
		},
	)
}

const sampleText = `stage copy(from1 recv int, to send int) {
	for x from from1 {
		send to x;
	}
	close to;
	drain from1;
}
stage none() {
}
stage main(in recv int, out send recv send int, n int) {
	let y = -n * (2 + 3) == 4;
	set y = y < 2;
	chan s r int 1;
	chan p q recv send int 999999999999999999;
	clone t s;
	spawn copy(in, s);
	spawn none();
	take z from r {
		repeat 3 {
			emit x;
			emit -x;
		}
	} else {
		abandon r;
		if x {
		} else {
			emit x - 0;
		}
	}
	take z from r {
	}
	drain q;
}
`

// P4.2
func TestPrintOfTheSample(t *testing.T) { wantText(t, sample(), sampleText) }

// P4.2
func TestPrintOfEachKind(t *testing.T) {
	x, inner := name("x"), []api.Stmt{emit(num(7)), {Do: api.DoClose, A: "c"}}
	for _, c := range []struct {
		s    api.Stmt
		want string
	}{
		{api.Stmt{Do: api.DoLet, A: "x", E: es(op(api.OpAdd, num(1), num(2)))}, "\tlet x = 1 + 2;\n"},
		{api.Stmt{Do: api.DoSet, A: "x", E: es(num(0))}, "\tset x = 0;\n"},
		{api.Stmt{Do: api.DoEmit, E: es(x)}, "\temit x;\n"},
		{api.Stmt{Do: api.DoChan, A: "s", B: "r", T: "ri", N: 3}, "\tchan s r recv int 3;\n"},
		{api.Stmt{Do: api.DoChan, A: "s", B: "r", T: "i"}, "\tchan s r int 0;\n"},
		{api.Stmt{Do: api.DoClone, A: "t", B: "s"}, "\tclone t s;\n"},
		{api.Stmt{Do: api.DoSend, A: "s", E: es(op(api.OpMul, x, num(2)))}, "\tsend s x * 2;\n"},
		{api.Stmt{Do: api.DoSend, A: "s", E: es(neg(x))}, "\tsend s -x;\n"},
		{api.Stmt{Do: api.DoSend, A: "s", E: es(op(api.OpSub, op(api.OpLess, x, x), x))}, "\tsend s (x < x) - x;\n"},
		{api.Stmt{Do: api.DoClose, A: "c"}, "\tclose c;\n"},
		{api.Stmt{Do: api.DoAbandon, A: "c"}, "\tabandon c;\n"},
		{api.Stmt{Do: api.DoDrain, A: "c"}, "\tdrain c;\n"},
		{api.Stmt{Do: api.DoSpawn, A: "f"}, "\tspawn f();\n"},
		{api.Stmt{Do: api.DoSpawn, A: "f", E: es(neg(x))}, "\tspawn f(-x);\n"},
		{api.Stmt{Do: api.DoSpawn, A: "f", E: es(x, name("r"))}, "\tspawn f(x, r);\n"},
		{api.Stmt{Do: api.DoSpawn, A: "f", E: es(num(1), op(api.OpLess, x, num(2)), x, x, x, num(6))}, "\tspawn f(1, x < 2, x, x, x, 6);\n"},
		{api.Stmt{Do: api.DoTake, A: "x", B: "r"}, "\ttake x from r {\n\t}\n"},
		{api.Stmt{Do: api.DoTake, A: "x", B: "r", Body: inner}, "\ttake x from r {\n\t\temit 7;\n\t\tclose c;\n\t}\n"},
		{api.Stmt{Do: api.DoTake, A: "x", B: "r", Else: inner}, "\ttake x from r {\n\t} else {\n\t\temit 7;\n\t\tclose c;\n\t}\n"},
		{api.Stmt{Do: api.DoTake, A: "x", B: "r", Body: inner, Else: inner}, "\ttake x from r {\n\t\temit 7;\n\t\tclose c;\n\t} else {\n\t\temit 7;\n\t\tclose c;\n\t}\n"},
		{api.Stmt{Do: api.DoTake, A: "x", B: "r", Body: inner, Else: []api.Stmt{}}, "\ttake x from r {\n\t\temit 7;\n\t\tclose c;\n\t}\n"},
		{api.Stmt{Do: api.DoFor, A: "x", B: "r"}, "\tfor x from r {\n\t}\n"},
		{api.Stmt{Do: api.DoFor, A: "x", B: "r", Body: inner}, "\tfor x from r {\n\t\temit 7;\n\t\tclose c;\n\t}\n"},
		{api.Stmt{Do: api.DoRepeat, E: es(num(3))}, "\trepeat 3 {\n\t}\n"},
		{api.Stmt{Do: api.DoRepeat, E: es(num(3)), Body: inner}, "\trepeat 3 {\n\t\temit 7;\n\t\tclose c;\n\t}\n"},
		{api.Stmt{Do: api.DoIf, E: es(op(api.OpLess, x, num(2)))}, "\tif x < 2 {\n\t}\n"},
		{api.Stmt{Do: api.DoIf, E: es(x), Body: inner}, "\tif x {\n\t\temit 7;\n\t\tclose c;\n\t}\n"},
		{api.Stmt{Do: api.DoIf, E: es(x), Else: inner}, "\tif x {\n\t} else {\n\t\temit 7;\n\t\tclose c;\n\t}\n"},
		{api.Stmt{Do: api.DoIf, E: es(x), Body: inner, Else: inner}, "\tif x {\n\t\temit 7;\n\t\tclose c;\n\t} else {\n\t\temit 7;\n\t\tclose c;\n\t}\n"},
	} {
		wantStmt(t, c.s, c.want)
	}
}

// P4.2: each kind with a block in each other one, in its Body and in its Else.
func TestPrintOfBlocksInBlocks(t *testing.T) {
	kinds := []struct {
		s    api.Stmt
		head string
		both bool
	}{
		{api.Stmt{Do: api.DoTake, A: "x", B: "r"}, "take x from r {\n", true},
		{api.Stmt{Do: api.DoFor, A: "x", B: "r"}, "for x from r {\n", false},
		{api.Stmt{Do: api.DoRepeat, E: es(num(3))}, "repeat 3 {\n", false},
		{api.Stmt{Do: api.DoIf, E: es(num(1))}, "if 1 {\n", true},
	}
	for _, outer := range kinds {
		for _, inner := range kinds {
			in := inner.s
			in.Body = []api.Stmt{emit(num(1))}
			text := "\t\t" + inner.head + "\t\t\temit 1;\n\t\t"
			if inner.both {
				in.Else = []api.Stmt{emit(num(2))}
				text += "} else {\n\t\t\temit 2;\n\t\t"
			}
			text += "}\n"
			out := outer.s
			out.Body = []api.Stmt{in}
			wantStmt(t, out, "\t"+outer.head+text+"\t}\n")
			out.Body = []api.Stmt{in, in}
			wantStmt(t, out, "\t"+outer.head+text+text+"\t}\n")
			if !outer.both {
				continue
			}
			out.Body, out.Else = nil, []api.Stmt{in, emit(num(3))}
			wantStmt(t, out, "\t"+outer.head+"\t} else {\n"+text+"\t\temit 3;\n\t}\n")
			out.Body = []api.Stmt{in}
			wantStmt(t, out, "\t"+outer.head+text+"\t} else {\n"+text+"\t\temit 3;\n\t}\n")
		}
	}
}

// P4.2
func TestPrintOfStages(t *testing.T) {
	wantText(t, stages(api.Stage{Name: "a"}), "stage a() {\n}\n")
	wantText(t, stages(api.Stage{Name: "a", Params: []api.Param{}, Body: []api.Stmt{}}), "stage a() {\n}\n")
	wantText(t, stages(api.Stage{Name: "abcdefghijkl", Params: []api.Param{{Name: "b", T: "i"}}}), "stage abcdefghijkl(b int) {\n}\n")
	wantText(t, stages(api.Stage{Name: "a"}, api.Stage{Name: "a", Body: emits(2)}, api.Stage{Name: "c", Body: emits(1)}),
		"stage a() {\n}\nstage a() {\n\temit 1;\n\temit 1;\n}\nstage c() {\n\temit 1;\n}\n")
	six := []api.Param{{Name: "a", T: "i"}, {Name: "b", T: "si"}, {Name: "c", T: "ri"}, {Name: "d", T: "rri"}, {Name: "e", T: "srsi"}, {Name: "f", T: "i"}}
	wantText(t, stages(api.Stage{Name: "a", Params: six, Body: emits(1)}),
		"stage a(a int, b send int, c recv int, d recv recv int, e send recv send int, f int) {\n\temit 1;\n}\n")
}

// types gives each type of up to so many ends, with its words.
func types(ends int) map[string]string {
	all := map[string]string{"i": "int"}
	if ends == 0 {
		return all
	}
	for t, words := range types(ends - 1) {
		all["s"+t], all["r"+t] = "send "+words, "recv "+words
	}
	return all
}

// P4.2
func TestPrintOfEachType(t *testing.T) {
	all := types(api.MaxEnds)
	if len(all) != 15 {
		t.Fatalf("%d types: %v", len(all), all)
	}
	for typ, words := range all {
		wantText(t, stages(api.Stage{Name: "a", Params: []api.Param{{Name: "b", T: typ}}}), "stage a(b "+words+") {\n}\n")
		wantStmt(t, api.Stmt{Do: api.DoChan, A: "b", B: "c", T: typ, N: 5}, "\tchan b c "+words+" 5;\n")
	}
}

// P4.2: the chapter's examples, and the like.
func TestPrintOfExpressions(t *testing.T) {
	a, b, c := name("a"), name("b"), name("c")
	wantExpr(t, op(api.OpSub, num(1), op(api.OpSub, num(2), num(3))), "1 - (2 - 3)")
	wantExpr(t, op(api.OpSub, op(api.OpSub, num(1), num(2)), num(3)), "1 - 2 - 3")
	wantExpr(t, neg(neg(a)), "--a")
	wantExpr(t, neg(op(api.OpAdd, num(1), num(2))), "-(1 + 2)")
	wantExpr(t, op(api.OpMul, neg(a), b), "-a * b")
	wantExpr(t, neg(op(api.OpMul, a, b)), "-(a * b)")
	wantExpr(t, neg(neg(op(api.OpLess, a, neg(b)))), "--(a < -b)")
	wantExpr(t, op(api.OpSub, a, neg(neg(b))), "a - --b")
	wantExpr(t, op(api.OpMul, a, op(api.OpMul, b, c)), "a * (b * c)")
	wantExpr(t, op(api.OpAdd, op(api.OpMul, a, b), op(api.OpMul, b, c)), "a * b + b * c")
	wantExpr(t, op(api.OpEq, op(api.OpLess, num(1), num(2)), num(3)), "(1 < 2) == 3")
	wantExpr(t, op(api.OpLess, op(api.OpAdd, a, b), op(api.OpSub, op(api.OpSub, a, b), c)), "a + b < a - b - c")
	wantExpr(t, op(api.OpMul, op(api.OpMul, op(api.OpMul, a, b), c), neg(a)), "a * b * c * -a")
	wantExpr(t, num(0), "0")
	wantExpr(t, num(999999999999999999), "999999999999999999")
	wantExpr(t, name("z9"), "z9")
}

var pairs = []struct {
	op   int
	sign string
}{{api.OpAdd, " + "}, {api.OpSub, " - "}, {api.OpMul, " * "}, {api.OpLess, " < "}, {api.OpEq, " == "}}

// P4.2: each operation within each other one, on both sides.
func TestPrintOfOperationsInOperations(t *testing.T) {
	// The operations that are in brackets on the left and on the right of each.
	inBrackets := map[int][2]string{
		api.OpAdd:  {"< ==", "+ - < =="},
		api.OpSub:  {"< ==", "+ - < =="},
		api.OpMul:  {"+ - < ==", "+ - * < =="},
		api.OpLess: {"< ==", "< =="},
		api.OpEq:   {"< ==", "< =="},
	}
	x, one := name("x"), num(1)
	for _, inner := range pairs {
		in := op(inner.op, x, one)
		text := func(list string) string {
			for _, sign := range strings.Fields(list) {
				if " "+sign+" " == inner.sign {
					return "(x" + inner.sign + "1)"
				}
			}
			return "x" + inner.sign + "1"
		}
		wantExpr(t, neg(in), "-(x"+inner.sign+"1)")
		for _, outer := range pairs {
			left, right := text(inBrackets[outer.op][0]), text(inBrackets[outer.op][1])
			wantExpr(t, op(outer.op, in, name("y")), left+outer.sign+"y")
			wantExpr(t, op(outer.op, name("y"), in), "y"+outer.sign+right)
			wantExpr(t, op(outer.op, in, in), left+outer.sign+right)
			wantExpr(t, op(outer.op, neg(in), neg(in)), "-(x"+inner.sign+"1)"+outer.sign+"-(x"+inner.sign+"1)")
			wantExpr(t, op(outer.op, neg(x), neg(one)), "-x"+outer.sign+"-1")
		}
	}
}

// exprsOf gives each expression of so many parts, its leaves named one by one.
func exprsOf(parts int) []api.Expr {
	if parts == 1 {
		return es(name("a"))
	}
	var all []api.Expr
	for _, x := range exprsOf(parts - 1) {
		all = append(all, neg(x))
	}
	for left := 1; left < parts-1; left++ {
		for _, l := range exprsOf(left) {
			for _, r := range exprsOf(parts - 1 - left) {
				for _, pair := range pairs {
					all = append(all, op(pair.op, l, r))
				}
			}
		}
	}
	return all
}

// wantNeeded: without any one pair of its brackets the text says something
// else, or nothing.
func wantNeeded(t *testing.T, p api.Program, text string) {
	t.Helper()
	var open []int
	for i := range len(text) {
		switch text[i] {
		case '(':
			open = append(open, i)
		case ')':
			begin := open[len(open)-1]
			open = open[:len(open)-1]
			if begin > 0 && !isSign(text[begin-1]) { // the list of a stage or a spawn
				continue
			}
			less := text[:begin] + " " + text[begin+1:i] + " " + text[i+1:]
			if q, f := syntax.Parse(less); f.Code == 0 && syntax.Same(p, q) {
				t.Fatalf("Print: %q: the brackets from %d to %d aren't needed", short(text), begin, i)
			}
		}
	}
}

func isSign(b byte) bool { return b == ' ' || b == '-' || b == '(' }

// P4.2: all expressions of up to seven parts.
func TestPrintHasNoMoreBracketsThanNeeded(t *testing.T) {
	texts := map[string]bool{}
	all := 0
	for parts := 1; parts <= 7; parts++ {
		for _, x := range exprsOf(parts) {
			all++
			p := body(emit(x))
			text := printed(t, p)
			wantNeeded(t, p, text)
			texts[text] = true
		}
	}
	if all < 1000 || len(texts) != all {
		t.Errorf("%d expressions have %d texts", all, len(texts))
	}
}
