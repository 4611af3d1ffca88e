package kinds

import (
	"strings"
	"testing"

	"pipewright/api"
	"pipewright/render"
)

// P5.1: of each statement each fault alone.
func TestFaultsOfStatements(t *testing.T) {
	for _, c := range []struct {
		stmts    string
		code, at int
	}{
		{"let x = y;", api.ErrNone, 0},
		{"let x = in;", api.ErrType, 0},
		{"let x = 1 + (2 - -in);", api.ErrType, 0},
		{"let x = 1 * (2 < -y);", api.ErrNone, 0},
		{"set x = 1;", api.ErrNone, 0},
		{"set in = 1;", api.ErrType, 0},
		{"chan s r int 1; set s = 1;", api.ErrType, 1},
		{"let x = 1; set x = y;", api.ErrNone, 1},
		{"let x = 1; set x = in;", api.ErrType, 1},
		{"let x = 1; set x = x + in;", api.ErrType, 1},
		{"emit x;", api.ErrNone, 0},
		{"emit in;", api.ErrType, 0},
		{"chan s r int 1; emit s;", api.ErrType, 1},
		{"emit 1; emit 2 == x;", api.ErrNone, 1},
		{"chan s r int 0;", api.ErrRange, 0},
		{"chan s r int 6;", api.ErrRange, 0},
		{"chan s r send recv send int 1;", api.ErrType, 0},
		{"clone x y;", api.ErrNone, 0},
		{"clone x in;", api.ErrType, 0},
		{"let x = 1; clone y x;", api.ErrType, 1},
		{"chan s r send int 1; clone x r;", api.ErrType, 1},
		{"send x 1;", api.ErrNone, 0},
		{"send in 1;", api.ErrType, 0},
		{"let x = 1; send x 1;", api.ErrType, 1},
		{"chan s r int 1; send s x;", api.ErrNone, 1},
		{"chan s r int 1; send s in;", api.ErrType, 1},
		{"chan s r int 1; send s s;", api.ErrType, 1},
		{"chan s r recv int 1; send s 1;", api.ErrType, 1},
		{"chan s r recv int 1; send s x;", api.ErrNone, 1},
		{"chan s r recv int 1; send s r;", api.ErrType, 1},
		{"chan s r recv int 1; send s s;", api.ErrType, 1},
		{"let x = 1; chan s r recv int 1; send s x;", api.ErrType, 2},
		{"chan s r send int 1; send s in;", api.ErrType, 1},
		{"chan s r send int 1; chan t u send int 1; send s t;", api.ErrType, 2},
		{"close x;", api.ErrNone, 0},
		{"close in;", api.ErrType, 0},
		{"let x = 1; close x;", api.ErrType, 1},
		{"abandon x;", api.ErrNone, 0},
		{"let x = 1; abandon x;", api.ErrType, 1},
		{"chan s r recv int 1; abandon s;", api.ErrType, 1},
		{"drain x;", api.ErrNone, 0},
		{"let x = 1; drain x;", api.ErrType, 1},
		{"chan s r recv int 1; drain s;", api.ErrType, 1},
		{"take x from y { }", api.ErrNone, 0},
		{"let y = 1; take x from y { }", api.ErrType, 1},
		{"chan s r recv int 1; take x from s { }", api.ErrType, 1},
		{"for x from y { }", api.ErrNone, 0},
		{"let y = 1; for x from y { }", api.ErrType, 1},
		{"chan s r recv int 1; for x from s { }", api.ErrType, 1},
		{"chan s r recv int 1; for x from r { emit x; }", api.ErrType, 2},
		{"chan s r send int 1; take x from r { drain x; }", api.ErrType, 2},
		{"take x from in { drain x; }", api.ErrType, 1},
		{"repeat x { }", api.ErrNone, 0},
		{"repeat in { }", api.ErrType, 0},
		{"if x { }", api.ErrNone, 0},
		{"if in { }", api.ErrType, 0},
		{"if 1 { emit 1; } else { emit x; }", api.ErrNone, 2},
		{"if 1 { emit in; } else { emit 1; }", api.ErrType, 1},
		{"repeat 1 { repeat 2 { repeat in { } } }", api.ErrType, 2},
	} {
		wantText(t, lay(c.stmts), c.code, c.at)
	}
}

// P5.1: what is spawned stands above, with as many parameters, of their types.
func TestSpawn(t *testing.T) {
	const three = "chan s r recv int 1; spawn g"
	for _, c := range []struct {
		stmts    string
		code, at int
	}{
		{"spawn nobody();", api.ErrStage, 0},
		{"spawn nobody(x);", api.ErrStage, 0},
		{"spawn main(in);", api.ErrStage, 0},
		{"spawn main();", api.ErrStage, 0},
		{"spawn below();", api.ErrStage, 0},
		{"spawn none(1);", api.ErrCount, 0},
		{"spawn none(x);", api.ErrCount, 0},
		{"spawn f();", api.ErrCount, 0},
		{"spawn f(1, 2);", api.ErrCount, 0},
		{"spawn f(x);", api.ErrNone, 0},
		{"spawn f(in);", api.ErrType, 0},
		{"spawn f(1 + in);", api.ErrType, 0},
		{"spawn f(1); spawn f(-x);", api.ErrNone, 1},
		{three + "(1, in);", api.ErrCount, 1},
		{three + "(1, in, s, 1);", api.ErrCount, 1},
		{three + "(x, in, s);", api.ErrNone, 1},
		{three + "(in, in, s);", api.ErrType, 1},
		{three + "(1, x, s);", api.ErrNone, 1},
		{three + "(1, 1, s);", api.ErrType, 1},
		{three + "(1, -in, s);", api.ErrType, 1},
		{three + "(1, s, s);", api.ErrType, 1},
		{three + "(1, r, s);", api.ErrType, 1},
		{three + "(1, in, x);", api.ErrNone, 1},
		{three + "(1, in, 5);", api.ErrType, 1},
		{three + "(1, in, in);", api.ErrType, 1},
		{three + "(1, in, r);", api.ErrType, 1},
		{three + "(s, in, 1);", api.ErrType, 1},
		{"if 1 { spawn nobody(); }", api.ErrStage, 1},
		{three + "(1, in, s);", 0, 0},
		{three + "(1 + 2 * 3, in, (s));", 0, 0},
		{"spawn none(); spawn f(1); spawn f(2); if 1 { spawn none(); }", 0, 0},
	} {
		wantText(t, lay(c.stmts)+" stage below() { }", c.code, c.at)
	}
	wantText(t, "stage main(in recv int) { drain in; } stage a(x recv int) { spawn main(x); } stage b() { chan s r int 1; close s; spawn a(r); spawn main(r); }", 0, 0)
	wantText(t, "stage main(in recv int) { drain in; } stage a(x recv int) { spawn b(); } stage b() { }", api.ErrStage, 1)
	wantText(t, "stage main(in recv int) { drain in; } stage a(x recv int) { spawn a(x); } stage b() { }", api.ErrStage, 1)
	six := "stage six(a int, b send int, c recv int, d send send send int, e recv recv int, f int) { } "
	wantText(t, six+"stage main(in recv int) { } stage c(a int, b send int, c recv int, d send send send int, e recv recv int, f int) { spawn six(a, b, c, d, e, f); }", 0, 0)
	wantText(t, six+"stage main(in recv int) { } stage c(a int, b send int, c recv int, d send send int, e recv recv int, f int) { spawn six(a, b, c, d, e, f); }", api.ErrType, 0)
}

// P5.1: a thing of another type than i is a name alone, and then known, and
// then of just that type.
func TestThingsOfOtherTypes(t *testing.T) {
	const two = "chan s r recv int 1; "
	for _, x := range []string{
		"1", "-1", "-in", "--in", "in + in", "in + 1", "1 * in", "in < in", "in == in",
		"-x", "x + in", "in - x", "x == x", "x * (x + x)",
	} {
		wantText(t, lay(two+"send s "+x+";"), api.ErrType, 1)
		wantText(t, lay(two+"spawn g(1, "+x+", s);"), api.ErrType, 1)
	}
	for _, x := range []string{"in", "(in)", "((in))"} {
		wantText(t, lay(two+"send s "+x+";"), 0, 0)
		wantText(t, lay(two+"spawn g(1, "+x+", s);"), 0, 0)
	}
	wantText(t, lay(two+"send s (x);"), api.ErrNone, 1)
}

// P5.1: names in a thing of type i, one by one from the left.
func TestThingsOfNumbers(t *testing.T) {
	for _, c := range []struct {
		x    string
		code int
	}{
		{"n", 0}, {"-n", 0}, {"n + n * -(n < n) - (n == 1)", 0},
		{"x", api.ErrNone}, {"in", api.ErrType},
		{"x + in", api.ErrNone}, {"in + x", api.ErrType},
		{"n + x", api.ErrNone}, {"x + n", api.ErrNone},
		{"n - in", api.ErrType}, {"in - n", api.ErrType},
		{"n * -x", api.ErrNone}, {"n * -in", api.ErrType},
		{"(n < in) == x", api.ErrType}, {"(n < x) == in", api.ErrNone},
		{"1 + 2 + 3 + in + x", api.ErrType}, {"1 + 2 + 3 + x + in", api.ErrNone},
		{"1 + (2 + (3 + (in + x)))", api.ErrType}, {"1 - (2 + (3 + (x + in)))", api.ErrNone},
		{"--(1 == -x)", api.ErrNone}, {"--(1 == -in)", api.ErrType},
	} {
		at := 1
		if c.code == 0 {
			at = 0
		}
		for _, stmt := range []string{"let y = @;", "set n = @;", "emit @;", "spawn f(@);", "repeat @ { }", "if @ { }"} {
			wantText(t, lay("let n = 1; "+strings.ReplaceAll(stmt, "@", c.x)), c.code, at)
		}
		if at > 0 {
			at = 2
		}
		wantText(t, lay("let n = 1; chan s r int 1; send s "+c.x+";"), c.code, at)
	}
}

// P5.1: the faults of stages, each at its stage.
func TestFaultsOfStages(t *testing.T) {
	for _, c := range []struct {
		src      string
		code, at int
	}{
		{"stage a() { } stage a() { } stage main(in recv int) { }", api.ErrTwice, -3},
		{"stage a() { } stage b() { } stage a(x int) { } stage main(in recv int) { }", api.ErrTwice, -4},
		{"stage main(in recv int) { } stage main(in recv int) { }", api.ErrTwice, -3},
		{"stage main() { } stage main(in recv int) { }", api.ErrTwice, -3},
		{"stage a(x int, x int) { } stage main(in recv int) { }", api.ErrTwice, -2},
		{"stage a(x int, y int) { } stage main(x recv int, x int) { }", api.ErrTwice, -3},
		{"stage a(x int, y int, z int, x recv int) { } stage main(in recv int) { }", api.ErrTwice, -2},
		{"stage a(a1 int, a2 int, a3 int, a4 int, a5 int, a5 int) { } stage main(in recv int) { }", api.ErrTwice, -2},
		{"stage a(x int) { emit x; } stage b(x int) { emit x; } stage main(x recv int) { }", 0, 0},
	} {
		wantText(t, c.src, c.code, c.at)
	}
}

// P5.1: one stage is called main and has one parameter alone, of type ri.
func TestMain(t *testing.T) {
	for _, src := range []string{
		"stage a() { }",
		"stage mai(in recv int) { }",
		"stage maim(in recv int) { }",
		"stage main() { }",
		"stage main(in int) { }",
		"stage main(in send int) { }",
		"stage main(in recv recv int) { }",
		"stage main(in recv send int) { }",
		"stage main(in recv int, x int) { }",
		"stage main(x int, in recv int) { }",
		"stage main(in recv int, to recv int) { }",
		"stage a(in recv int) { } stage main() { } stage b(in recv int) { }",
		"stage c() { } stage a(main recv int) { let b = 1; spawn c(); }",
	} {
		wantText(t, src, api.ErrMain, -1)
	}
	for _, src := range []string{
		"stage main(in recv int) { }",
		"stage main(main recv int) { }",
		"stage a() { } stage main(x recv int) { drain x; } stage b() { }",
		"stage a() { } stage b() { } stage main(x recv int) { drain x; }",
		"stage main(x recv int) { drain x; } stage mainn() { } stage mai(in int) { }",
	} {
		wantText(t, src, 0, 0)
	}
}

// P5.1: what render.Check says is said ahead of all, whatever else is wrong.
func TestRenderAhead(t *testing.T) {
	twice := []api.Stage{stageOf("a", nil), stageOf("a", nil, emit(name("x")))}
	for _, c := range []struct {
		p        api.Program
		code, at int
	}{
		{stages(), api.ErrNone, -1},
		{stages(make([]api.Stage, api.MaxStages+1)...), api.ErrMany, -1},
		{stages(append(twice, stageOf("let", nil))...), api.ErrName, -4},
		{stages(append(twice, stageOf("b", make([]api.Param, api.MaxParams+1)))...), api.ErrMany, -4},
		{stages(append(twice, stageOf("b", []api.Param{{Name: "x", T: "si"}, {Name: "x", T: "s"}}))...), api.ErrType, -4},
		{stages(append(twice, stageOf("b", []api.Param{{Name: "x", T: "i"}, {Name: "int", T: "i"}}))...), api.ErrName, -4},
		{stages(append(twice, stageOf("b", nil, let("x"), api.Stmt{Do: 15}))...), api.ErrForm, 2},
		{stages(append(twice, stageOf("b", nil, let("x"), api.Stmt{}))...), api.ErrForm, 2},
		{stages(append(twice, stageOf("b", nil, let("for")))...), api.ErrName, 1},
		{stages(append(twice, stageOf("b", nil, api.Stmt{Do: api.DoChan, A: "x", B: "x", T: "rrrri", N: 1}))...), api.ErrType, 1},
		{stages(append(twice, stageOf("b", nil, api.Stmt{Do: api.DoChan, A: "x", B: "x", T: "i", N: -1}))...), api.ErrRange, 1},
		{stages(append(twice, stageOf("b", nil, api.Stmt{Do: api.DoLet, A: "x"}))...), api.ErrForm, 1},
		{stages(append(twice, stageOf("b", nil, api.Stmt{Do: api.DoLet, A: "x", E: es(num(1), num(2))}))...), api.ErrForm, 1},
		{stages(append(twice, stageOf("b", nil, api.Stmt{Do: api.DoSpawn, A: "a", E: make([]api.Expr, 7)}))...), api.ErrMany, 1},
		{stages(append(twice, stageOf("b", nil, emit(op(9))))...), api.ErrForm, 1},
		{stages(append(twice, stageOf("b", nil, emit(op(0))))...), api.ErrForm, 1},
		{stages(append(twice, stageOf("b", nil, emit(op(api.OpAdd, num(1)))))...), api.ErrForm, 1},
		{stages(append(twice, stageOf("b", nil, emit(name("emit"))))...), api.ErrName, 1},
		{stages(append(twice, stageOf("b", nil, emit(num(-1))))...), api.ErrNumber, 1},
		{stages(append(twice, stageOf("b", nil, emits(api.MaxStmts)...))...), api.ErrMany, api.MaxStmts},
		{stages(append(twice, deep(api.MaxDepth))...), api.ErrDeep, api.MaxDepth},
		{stages(append(twice, deep(1<<16))...), api.ErrDeep, api.MaxDepth},
		{stages(append(twice, stageOf("b", nil, emit(negs(1<<16))))...), api.ErrMany, 1},
		{stages(append(twice, stageOf("b", nil, emits(90)...), stageOf("c", nil, greats(150)...))...), api.ErrSize, -1},
	} {
		wantFault(t, c.p, c.code, c.at)
		if got := render.Check(c.p); got != fault(c.code, c.at) {
			t.Errorf("render.Check(%s): %v", shown(c.p), got)
		}
	}
}

func emits(n int) []api.Stmt {
	var body []api.Stmt
	for range n {
		body = append(body, emit(num(1)))
	}
	return body
}

func greats(n int) []api.Stmt {
	x := num(999_999_999_999_999_999)
	var body []api.Stmt
	for range n {
		body = append(body, emit(op(api.OpAdd, op(api.OpAdd, op(api.OpAdd, x, x), op(api.OpMul, x, x)), x)))
	}
	return body
}

func negs(n int) api.Expr {
	x := name("x")
	for range n {
		x = op(api.OpNeg, x)
	}
	return x
}

// deep has so many repeats within one another.
func deep(n int) api.Stage {
	var body []api.Stmt
	for range n {
		body = []api.Stmt{{Do: api.DoRepeat, E: es(name("x")), Body: body}}
	}
	return stageOf("b", nil, body...)
}
