package syntax

import (
	"testing"

	"pipewright/api"
)

// P3.1
func TestParseExamples(t *testing.T) {
	wantProgram(t, "stage main(in recv int) { drain in; }", api.Stage{
		Name: "main", Params: []api.Param{{Name: "in", T: "ri"}},
		Body: []api.Stmt{{Do: api.DoDrain, At: 26, A: "in"}},
	})
	wantProgram(t, "stage a() { emit 1 - 2 - 3; }", api.Stage{
		Name: "a",
		Body: []api.Stmt{{Do: api.DoEmit, At: 12, E: es(op(api.OpSub, op(api.OpSub, num(1), num(2)), num(3)))}},
	})
	wantFault(t, "stage a( { }", fault(api.ErrForm, 9))
	wantFault(t, "stage a(", fault(api.ErrShort, 8))
	wantFault(t, "", fault(api.ErrShort, 0))
}

// P3.1
func TestParseOfStages(t *testing.T) {
	wantProgram(t, "stage a(){}", api.Stage{Name: "a"})
	wantProgram(t, " #x\n stage a(){}stage b ( ) { } # y", api.Stage{Name: "a", At: 5}, api.Stage{Name: "b", At: 16})
	wantProgram(t, "stage a(){}\n\nstage a(){}", api.Stage{Name: "a"}, api.Stage{Name: "a", At: 13})
	wantProgram(t, "stage ab1(x int,y send int , x recv int){emit x;}", api.Stage{
		Name:   "ab1",
		Params: []api.Param{{Name: "x", T: "i"}, {Name: "y", T: "si"}, {Name: "x", T: "ri"}},
		Body:   []api.Stmt{{Do: api.DoEmit, At: 41, E: es(name("x"))}},
	})
}

// P3.1
func TestParseOfTypes(t *testing.T) {
	for src, want := range map[string]string{
		"int": "i", "send int": "si", "recv int": "ri",
		"send send int": "ssi", "send recv int": "sri", "recv send int": "rsi", "recv recv int": "rri",
		"send send send int": "sssi", "recv recv recv int": "rrri", "recv send recv int": "rsri",
		"send recv recv int": "srri", "send send recv int": "ssri", "recv\nrecv#\nsend\tint": "rrsi",
	} {
		wantProgram(t, "stage a(b "+src+"){}", api.Stage{Name: "a", Params: []api.Param{{Name: "b", T: want}}})
		wantStmt(t, "chan b c "+src+" 7;", api.Stmt{Do: api.DoChan, A: "b", B: "c", T: want, N: 7})
	}
}

// P3.1: the fields that package api names beside each kind, and no others.
func TestParseOfEachStatement(t *testing.T) {
	for _, c := range []struct {
		src  string
		want api.Stmt
	}{
		{"let b = 1;", api.Stmt{Do: api.DoLet, A: "b", E: es(num(1))}},
		{"set b = c;", api.Stmt{Do: api.DoSet, A: "b", E: es(name("c"))}},
		{"emit 2;", api.Stmt{Do: api.DoEmit, E: es(num(2))}},
		{"chan b c int 3;", api.Stmt{Do: api.DoChan, A: "b", B: "c", T: "i", N: 3}},
		{"chan b c send int 0;", api.Stmt{Do: api.DoChan, A: "b", B: "c", T: "si"}},
		{"chan b b int 999999999999999999;", api.Stmt{Do: api.DoChan, A: "b", B: "b", T: "i", N: 999999999999999999}},
		{"clone b c;", api.Stmt{Do: api.DoClone, A: "b", B: "c"}},
		{"send b 4;", api.Stmt{Do: api.DoSend, A: "b", E: es(num(4))}},
		{"send b c;", api.Stmt{Do: api.DoSend, A: "b", E: es(name("c"))}},
		{"send b -c;", api.Stmt{Do: api.DoSend, A: "b", E: es(neg(name("c")))}},
		{"send b (c);", api.Stmt{Do: api.DoSend, A: "b", E: es(name("c"))}},
		{"close b;", api.Stmt{Do: api.DoClose, A: "b"}},
		{"abandon b;", api.Stmt{Do: api.DoAbandon, A: "b"}},
		{"drain b;", api.Stmt{Do: api.DoDrain, A: "b"}},
		{"spawn b();", api.Stmt{Do: api.DoSpawn, A: "b"}},
		{"spawn b(c);", api.Stmt{Do: api.DoSpawn, A: "b", E: es(name("c"))}},
		{"spawn b(1, (c), -2);", api.Stmt{Do: api.DoSpawn, A: "b", E: es(num(1), name("c"), neg(num(2)))}},
		{"take b from c { }", api.Stmt{Do: api.DoTake, A: "b", B: "c"}},
		{"take b from c { } else { }", api.Stmt{Do: api.DoTake, A: "b", B: "c"}},
		{"for b from c { }", api.Stmt{Do: api.DoFor, A: "b", B: "c"}},
		{"repeat 5 { }", api.Stmt{Do: api.DoRepeat, E: es(num(5))}},
		{"if b { }", api.Stmt{Do: api.DoIf, E: es(name("b"))}},
		{"if b { } else { }", api.Stmt{Do: api.DoIf, E: es(name("b"))}},
	} {
		wantStmt(t, c.src, c.want)
		second := c.want
		second.At = len(c.src) + 1
		wantStmt(t, c.src+"\n"+c.src, c.want, second)
	}
}

func drain(at int, a string) api.Stmt { return api.Stmt{Do: api.DoDrain, At: at, A: a} }

// P3.1: what stands in which block, and At at any depth.
func TestParseOfBlocks(t *testing.T) {
	wantStmt(t, "take b from c{drain d;drain e;}else{drain f;}drain g;",
		api.Stmt{
			Do: api.DoTake, A: "b", B: "c",
			Body: []api.Stmt{drain(14, "d"), drain(22, "e")}, Else: []api.Stmt{drain(36, "f")},
		}, drain(45, "g"))
	wantStmt(t, "take b from c{}else{drain d;}", api.Stmt{Do: api.DoTake, A: "b", B: "c", Else: []api.Stmt{drain(20, "d")}})
	wantStmt(t, "take b from c{drain d;}", api.Stmt{Do: api.DoTake, A: "b", B: "c", Body: []api.Stmt{drain(14, "d")}})
	wantStmt(t, "for b from c{drain d;}drain e;", api.Stmt{Do: api.DoFor, A: "b", B: "c", Body: []api.Stmt{drain(13, "d")}}, drain(22, "e"))
	wantStmt(t, "repeat 2{drain d;}", api.Stmt{Do: api.DoRepeat, E: es(num(2)), Body: []api.Stmt{drain(9, "d")}})
	wantStmt(t, "if b{drain d;}else{drain e;drain f;}", api.Stmt{
		Do: api.DoIf, E: es(name("b")),
		Body: []api.Stmt{drain(5, "d")}, Else: []api.Stmt{drain(19, "e"), drain(27, "f")},
	})
	// An else belongs to the block that it stands behind.
	wantStmt(t, "if b{if c{}}else{drain d;}", api.Stmt{
		Do: api.DoIf, E: es(name("b")),
		Body: []api.Stmt{{Do: api.DoIf, At: 5, E: es(name("c"))}}, Else: []api.Stmt{drain(17, "d")},
	})
	wantStmt(t, "if b{if c{}else{drain d;}}", api.Stmt{
		Do: api.DoIf, E: es(name("b")),
		Body: []api.Stmt{{Do: api.DoIf, At: 5, E: es(name("c")), Else: []api.Stmt{drain(16, "d")}}},
	})
}

func wantExpr(t *testing.T, src string, want api.Expr) {
	t.Helper()
	wantStmt(t, "emit "+src+";", api.Stmt{Do: api.DoEmit, E: es(want)})
	wantStmt(t, "let b = "+src+";", api.Stmt{Do: api.DoLet, A: "b", E: es(want)})
	wantStmt(t, "set b = "+src+";", api.Stmt{Do: api.DoSet, A: "b", E: es(want)})
	wantStmt(t, "send b "+src+";", api.Stmt{Do: api.DoSend, A: "b", E: es(want)})
	wantStmt(t, "repeat "+src+"{}", api.Stmt{Do: api.DoRepeat, E: es(want)})
	wantStmt(t, "if "+src+"{}", api.Stmt{Do: api.DoIf, E: es(want)})
	wantStmt(t, "spawn b("+src+","+src+");", api.Stmt{Do: api.DoSpawn, A: "b", E: es(want, want)})
}

// P3.1
func TestParseOfExpressions(t *testing.T) {
	a, b, c, d := name("a"), name("b"), name("c"), name("d")
	add := func(x, y api.Expr) api.Expr { return op(api.OpAdd, x, y) }
	sub := func(x, y api.Expr) api.Expr { return op(api.OpSub, x, y) }
	mul := func(x, y api.Expr) api.Expr { return op(api.OpMul, x, y) }
	less := func(x, y api.Expr) api.Expr { return op(api.OpLess, x, y) }
	eq := func(x, y api.Expr) api.Expr { return op(api.OpEq, x, y) }
	for src, want := range map[string]api.Expr{
		"0": num(0), "a": a, "999999999999999999": num(999999999999999999),
		"a+b": add(a, b), "a-b": sub(a, b), "a*b": mul(a, b), "a<b": less(a, b), "a==b": eq(a, b),
		"a-b-c": sub(sub(a, b), c), "a-b+c": add(sub(a, b), c), "a+b-c-d": sub(sub(add(a, b), c), d),
		"a*b*c": mul(mul(a, b), c), "a*b*c*d": mul(mul(mul(a, b), c), d),
		"a+b*c": add(a, mul(b, c)), "a*b+c": add(mul(a, b), c), "a*b-c*d": sub(mul(a, b), mul(c, d)),
		"a-(b-c)": sub(a, sub(b, c)), "(a-b)-c": sub(sub(a, b), c), "a*(b*c)": mul(a, mul(b, c)),
		"(a+b)*c": mul(add(a, b), c), "a*(b+c)": mul(a, add(b, c)),
		"a<b+c": less(a, add(b, c)), "a-b<c": less(sub(a, b), c), "a*b==c-d": eq(mul(a, b), sub(c, d)),
		"(a<b)<c": less(less(a, b), c), "a==(b==c)": eq(a, eq(b, c)), "(a<b)==(c<d)": eq(less(a, b), less(c, d)),
		"(a<b)+c": add(less(a, b), c),
		"-a":      neg(a), "--a": neg(neg(a)), "-1": neg(num(1)), "-(a)": neg(a), "(-a)": neg(a), "-(-a)": neg(neg(a)),
		"-a*b": mul(neg(a), b), "a*-b": mul(a, neg(b)), "-(a*b)": neg(mul(a, b)), "-a+b": add(neg(a), b),
		"a--b": sub(a, neg(b)), "a - - - b": sub(a, neg(neg(b))), "a+-b": add(a, neg(b)), "-(a+b)": neg(add(a, b)),
		"a<-b": less(a, neg(b)), "a==-b": eq(a, neg(b)), "-(a<b)": neg(less(a, b)),
		"(a)": a, "((a))": a, "(((1)))": num(1), "((a)+((b)))": add(a, b),
	} {
		wantExpr(t, src, want)
	}
}

// slowExpr reads an expression, of which nothing is wrong, by parting it at
// the last sign that binds least.
func slowExpr(l []string) api.Expr {
	for _, level := range []map[string]int{
		{"<": api.OpLess, "==": api.OpEq}, {"+": api.OpAdd, "-": api.OpSub}, {"*": api.OpMul},
	} {
		within := 0
		for i := len(l) - 1; i > 0; i-- {
			switch {
			case l[i] == ")":
				within++
			case l[i] == "(":
				within--
			case within == 0 && level[l[i]] != 0 && (isOperand(l[i-1]) || l[i-1] == ")"):
				return op(level[l[i]], slowExpr(l[:i]), slowExpr(l[i+1:]))
			}
		}
	}
	switch {
	case l[0] == "-":
		return neg(slowExpr(l[1:]))
	case l[0] == "(":
		return slowExpr(l[1 : len(l)-1])
	case l[0][0] <= '9':
		return num(int64(l[0][0] - '0'))
	}
	return name(l[0])
}

func isOperand(s string) bool { return s == "a" || s == "b" || s == "7" }

// P3.1: all texts of few tokens where an expression should be.
func TestParseOfAllSmallExpressions(t *testing.T) {
	var try func(l []string, signs []string, more int)
	right := 0
	try = func(l []string, signs []string, more int) {
		src := "stage a(){emit"
		for _, s := range l {
			src += " " + s
		}
		src += ";}"
		p, f := Parse(src)
		if want, _ := slowFault(src); f != want {
			t.Fatalf("Parse(%q): %v, want %v", src, f, want)
		}
		if f.Code == 0 {
			right++
			want := api.Program{Stages: []api.Stage{{Name: "a", Body: []api.Stmt{{Do: api.DoEmit, At: 10, E: es(slowExpr(l))}}}}}
			if !alike(p, want) {
				t.Fatalf("Parse(%q): %+v, want %+v", src, p, want)
			}
		}
		if more > 0 {
			for _, s := range signs {
				try(append(l[:len(l):len(l)], s), signs, more-1)
			}
		}
	}
	try(nil, []string{"a", "7", "(", ")", "-", "+", "*", "<", "=="}, 4)
	try(nil, []string{"b", "(", ")", "-", "*"}, 7)
	try([]string{"a", "-", "b"}, []string{"a", "(", ")", "-", "==", "*"}, 6)
	if right < 400 {
		t.Errorf("%d expressions alone were right, want more to look at", right)
	}
}

// P3.1: blanks and remarks between tokens change nothing but places.
func TestParseOfBlanksBetween(t *testing.T) {
	want := parsed(t, sample)
	for _, between := range []string{" ", "\n", "\t\r\n ", "# else { }\n", " #\n#\n"} {
		src := between
		for _, s := range texts(t, sample) {
			src += s + between
		}
		got := parsed(t, src)
		if !alike(unplaced(got), unplaced(want)) {
			t.Errorf("with %q between its tokens the sample is another program", between)
		}
	}
}

// unplaced gives the program with all its places 0.
func unplaced(p api.Program) api.Program {
	var out api.Program
	for _, s := range p.Stages {
		s.At, s.Body = 0, unplacedBlock(s.Body)
		out.Stages = append(out.Stages, s)
	}
	return out
}

func unplacedBlock(block []api.Stmt) []api.Stmt {
	var out []api.Stmt
	for _, s := range block {
		s.At, s.Body, s.Else = 0, unplacedBlock(s.Body), unplacedBlock(s.Else)
		out = append(out, s)
	}
	return out
}
