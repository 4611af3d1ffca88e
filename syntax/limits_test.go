package syntax

import (
	"strings"
	"testing"

	"pipewright/api"
)

var rep = strings.Repeat

// P3.1, and 'What follows': at most MaxStages stages.
func TestParseOfTheMostStages(t *testing.T) {
	one := "stage a(){}"
	full := rep(one, api.MaxStages)
	if got := len(parsed(t, full).Stages); got != api.MaxStages {
		t.Errorf("%d stages, want %d", got, api.MaxStages)
	}
	wantFault(t, full+one, fault(api.ErrMany, len(full)))
	wantFault(t, full+one+one, fault(api.ErrMany, len(full)))
	wantFault(t, full+"\nstage", fault(api.ErrMany, len(full)+1))
	wantFault(t, full+"\nstage stage", fault(api.ErrMany, len(full)+1))
	wantFault(t, full+"\nstages", fault(api.ErrForm, len(full)+1))
	wantFault(t, full+"}", fault(api.ErrForm, len(full)))
	wantFault(t, rep(one, api.MaxStages-1)+"stage a(){", fault(api.ErrShort, len(full)-1))
}

// P3.1, and 'What follows': at most MaxStmts statements, wherever they stand.
func TestParseOfTheMostStatements(t *testing.T) {
	one := "emit 1;"
	for _, c := range []struct {
		ahead, behind string
		stmts         int
	}{
		{"stage a(){", "}", 0},
		{"stage a(){emit 1;}stage b(){}stage c(){emit 2;", "}", 2},
		{"stage a(){if 1{", "}}", 1},
		{"stage a(){take b from c{emit 1;}else{for b from c{repeat 1{", "}}}}", 4},
		{"stage a(){if 1{emit 1;emit 2;}", "}", 3},
		{"stage a(x send int){chan b c send recv int 1;", "}", 1},
	} {
		full := c.ahead + rep(one, api.MaxStmts-c.stmts)
		if got := Count(parsed(t, full+c.behind)); got != api.MaxStmts {
			t.Errorf("%d statements, want %d", got, api.MaxStmts)
		}
		many := fault(api.ErrMany, len(full))
		wantFault(t, full+one+c.behind, many)
		for _, word := range strings.Fields("let set emit chan clone send close abandon drain spawn take for repeat if") {
			wantFault(t, full+word, many)
			wantFault(t, full+word+" @", fault(api.ErrText, len(full+word)+1))
			wantFault(t, full+word+" ;", many)
		}
		for _, text := range strings.Fields("stage else from int recv x 1 ; , ( ) { + - * < = ==") {
			wantFault(t, full+" "+text, fault(api.ErrForm, len(full)+1))
		}
		wantFault(t, full, fault(api.ErrShort, len(full)))
		wantFault(t, full+c.behind+"stage z(){drain a;}", fault(api.ErrMany, len(full+c.behind)+len("stage z(){")))
	}
}

// P3.1: a statement counts as soon as it has begun.
func TestParseCountsStatementsThatAreOpen(t *testing.T) {
	full := "stage a(){" + rep("emit 1;", api.MaxStmts-1) + "if 1 {"
	parsed(t, full+"}}")
	wantFault(t, full+"emit 1;}}", fault(api.ErrMany, len(full)))
	wantFault(t, full+"} else {emit 1;}}", fault(api.ErrMany, len(full+"} else {")))
}

// P3.1
func TestParseOfTheMostParameters(t *testing.T) {
	list := func(one string, n int) string { return strings.TrimSuffix(rep(one+",", n), ",") }
	for _, c := range []struct{ ahead, one, behind string }{
		{"stage a(", "b int", "){}"},
		{"stage a(", "b send recv send int", "){}"},
		{"stage b(x int){spawn c(1);}stage a(", "b int", "){}"},
		{"stage a(){spawn b(", "1", ");}"},
		{"stage a(){spawn b(", "-(2+c)*3", ");}"},
		{"stage a(x int, y int){spawn c(1,2);spawn b(", "1", ");}"},
		{"stage a(){spawn b();if x{spawn b(", "c == 1", ");}}"},
	} {
		full := c.ahead + list(c.one, api.MaxParams)
		p := parsed(t, full+c.behind)
		last := p.Stages[len(p.Stages)-1]
		if got := len(last.Params); strings.HasSuffix(c.ahead, "stage a(") && got != api.MaxParams {
			t.Errorf("%d parameters, want %d", got, api.MaxParams)
		}
		if strings.HasSuffix(c.ahead, "){spawn b(") && len(last.Body[0].E) != api.MaxParams {
			t.Errorf("%d arguments, want %d", len(last.Body[0].E), api.MaxParams)
		}
		many := fault(api.ErrMany, len(full)+1)
		wantFault(t, full+","+c.one+c.behind, many)
		wantFault(t, full+","+c.one+","+c.one+c.behind, many)
		// What it is that stands behind the comma doesn't matter, nor that nothing does.
		wantFault(t, full+",", many)
		wantFault(t, full+", # x", fault(api.ErrMany, len(full)+5))
		wantFault(t, full+",\n\n", fault(api.ErrMany, len(full)+3))
		for _, text := range strings.Fields(") , ; { } x 1 - ( stage int == emit") {
			wantFault(t, full+", "+text, fault(api.ErrMany, len(full)+2))
			wantFault(t, full+","+text+c.behind, many)
		}
		wantFault(t, full, fault(api.ErrShort, len(full)))
		wantFault(t, c.ahead+list(c.one, api.MaxParams-1)+",", fault(api.ErrShort, len(c.ahead+list(c.one, api.MaxParams-1))+1))
		wantFault(t, c.ahead+list(c.one, api.MaxParams-1)+",)", fault(api.ErrForm, len(c.ahead+list(c.one, api.MaxParams-1))+1))
	}
}

// P3.1: the limit is of each list, not of all of them.
func TestParseCountsParametersListByList(t *testing.T) {
	params := strings.TrimSuffix(rep("b int,", api.MaxParams), ",")
	args := strings.TrimSuffix(rep("1,", api.MaxParams), ",")
	one := "stage a(" + params + "){" + rep("spawn a("+args+");", 3) + "}"
	if got := Count(parsed(t, rep(one, 4))); got != 12 {
		t.Errorf("%d statements, want 12", got)
	}
}

// P3.1
func TestParseOfTheMostBlocks(t *testing.T) {
	for _, ahead := range []string{"if 1", "repeat 1", "take b from c", "for b from c", "if 1{}else", "take b from c{}else"} {
		open, shut := rep(ahead+"{", api.MaxDepth-1), rep("}", api.MaxDepth-1)
		parsed(t, stage(open+shut))
		parsed(t, stage(open+"emit 1;"+shut))
		parsed(t, stage(open+shut+open+shut)+stage(open+shut))
		// Of what is too deep the Body is told, which stands ahead of the Else.
		head := strings.TrimSuffix(ahead, "{}else")
		full := stage("")[:bodyAt] + open + head
		deep := fault(api.ErrDeep, len(full))
		wantFault(t, full+"{}"+shut+"}", deep)
		wantFault(t, full+"{", deep)
		wantFault(t, full+"{{", deep)
		wantFault(t, full+" {", fault(api.ErrDeep, len(full)+1))
		wantFault(t, full, fault(api.ErrShort, len(full)))
		wantFault(t, full+"}", fault(api.ErrForm, len(full)))
		wantFault(t, full+";", fault(api.ErrForm, len(full)))
	}
}

// P3.1: a token that couldn't stand at all is told for what it is.
func TestParseOfTheDeepestBlockOfAll(t *testing.T) {
	full := "stage a()" + rep("{", api.MaxDepth+2)
	wantFault(t, full, fault(api.ErrForm, len("stage a(){")))
	full = rep("stage a(){", api.MaxDepth+1)
	wantFault(t, full, fault(api.ErrForm, len("stage a(){")))
}

// P3.1
func TestParseOfTheMostEnds(t *testing.T) {
	for _, end := range []string{"send ", "recv "} {
		for _, c := range []struct{ ahead, behind string }{
			{"stage a(b ", "){}"},
			{"stage a(b recv send recv int, c ", "){}"},
			{"stage a(){chan b c ", "1;}"},
			{"stage a(b send int){send b 1;chan b c ", "1;send b 1;}"},
		} {
			full := c.ahead + rep(end, api.MaxEnds)
			parsed(t, full+"int "+c.behind)
			for _, more := range []string{"send", "recv"} {
				deep := fault(api.ErrDeep, len(full))
				wantFault(t, full+more+" int "+c.behind, deep)
				wantFault(t, full+more+" send int "+c.behind, deep)
				wantFault(t, full+more, deep)
				wantFault(t, full+more+" )", deep)
			}
			wantFault(t, full, fault(api.ErrShort, len(full)))
			wantFault(t, full+c.behind, fault(api.ErrForm, len(full)))
		}
	}
}

// P3.1
func TestParseOfTheMostOpen(t *testing.T) {
	full := rep("(", api.MaxOpen) + "a" + rep(")", api.MaxOpen)
	wantExpr(t, full, name("a"))
	// Such that are over are not open any more.
	wantExpr(t, full+"-"+full, op(api.OpSub, name("a"), name("a")))
	wantExpr(t, full+"*-1-"+full, op(api.OpSub, op(api.OpMul, name("a"), neg(num(1))), name("a")))
	inner := rep("(", api.MaxOpen-1) + "b" + rep(")", api.MaxOpen-1)
	wantExpr(t, "-"+inner+"*-"+inner, op(api.OpMul, neg(name("b")), neg(name("b"))))
	wantExpr(t, "("+inner+"-"+inner+")", op(api.OpSub, name("b"), name("b")))
	wantExpr(t, "-1*"+full, op(api.OpMul, neg(num(1)), name("a")))
	wantExpr(t, rep("-(", 15)+rep("(", api.MaxOpen-30)+"1"+rep(")", api.MaxOpen-15), negs(15, num(1)))
	for _, ahead := range []string{"emit ", "let b = ", "set b=", "send b ", "if ", "repeat ", "spawn b(", "spawn b(" + full + ",", "emit " + full + "==", "emit 1-"} {
		at := bodyAt + len(ahead) + api.MaxOpen
		begin := stage("")[:bodyAt] + ahead
		for _, signs := range []string{"(", "-", "-(", "(-", "--(", "((-"} {
			open := rep(signs, api.MaxOpen)
			wantFault(t, begin+open[:api.MaxOpen]+"(", fault(api.ErrDeep, at))
			wantFault(t, begin+open[:api.MaxOpen]+"-", fault(api.ErrDeep, at))
			wantFault(t, begin+open[:api.MaxOpen]+"-1;}", fault(api.ErrDeep, at))
			wantFault(t, begin+open[:api.MaxOpen]+"((1));}", fault(api.ErrDeep, at))
			wantFault(t, begin+open[:api.MaxOpen], fault(api.ErrShort, at))
			wantFault(t, begin+open[:api.MaxOpen]+"+", fault(api.ErrForm, at))
		}
	}
	// A sign between two units is not ahead of one alone: it opens nothing.
	open := rep("(", api.MaxOpen) + "1-2"
	wantFault(t, stage("emit "+open+"-"), fault(api.ErrForm, bodyAt+len("emit "+open)+1))
	wantFault(t, stage("emit "+open+"--"), fault(api.ErrDeep, bodyAt+len("emit "+open)+1))
}

func negs(n int, x api.Expr) api.Expr {
	for range n {
		x = neg(x)
	}
	return x
}

// P3.1
func TestParseOfTheMostParts(t *testing.T) {
	for _, c := range []struct{ least, more string }{
		{"1", "--"}, {"a", "----"}, {"-a", "+1"}, {"-1", "*a"}, {"-1", "-1"}, {"1+-a", "+b"}, {"(-1)", "*(a)"},
		{"-1<a", "+1"}, {"-1==a", "*1"}, {"a-(-1)", "-(b)"},
	} {
		of := func(parts int) string {
			text := c.least
			for partsOf(text) < parts {
				if strings.HasPrefix(c.more, "--") {
					text = "-" + text
				} else {
					text += c.more
				}
			}
			return text
		}
		full, much := of(api.MaxTerms), of(api.MaxTerms+1)
		if partsOf(full) != api.MaxTerms || partsOf(much) < api.MaxTerms+1 {
			t.Fatalf("%q has %d parts, %q %d", full, partsOf(full), much, partsOf(much))
		}
		for _, ahead := range []string{"emit ", "let b=", "set b = ", "send b ", "if ", "repeat ", "spawn b(", "spawn b(a,"} {
			behind := ";"
			if strings.HasPrefix(ahead, "spawn") {
				behind = ");"
			}
			if strings.HasPrefix(ahead, "if") || strings.HasPrefix(ahead, "rep") {
				behind = "{}"
			}
			parsed(t, stage(ahead+full+behind))
			parsed(t, stage(rep(ahead+full+behind, 3)))
			many := fault(api.ErrMany, bodyAt+len(ahead))
			wantFault(t, stage(ahead+much+behind), many)
			// It is over, whatever stands behind it, or nothing.
			for _, text := range []string{"", " a", " 1", ")", "}", " else", " ="} {
				wantFault(t, stage("")[:bodyAt]+ahead+much+text, many)
			}
		}
	}
}

// partsOf counts all but brackets: each number, name and sign is a part.
func partsOf(expr string) int {
	signs := strings.NewReplacer("(", "", ")", "", "==", "<")
	return len(signs.Replace(expr))
}

// P3.1: an expression of just one part more than may be.
func TestParseOfOnePartMore(t *testing.T) {
	sum := "1" + rep("+1", (api.MaxTerms-1)/2) // an odd number of parts, the greatest that may be
	wantExprFault := func(expr string, want api.Fault) {
		t.Helper()
		wantFault(t, stage("emit "+expr+";"), fault(want.Code, bodyAt+len("emit ")+want.At))
	}
	parsed(t, stage("emit -"+sum+";"))
	wantExprFault("--"+sum, fault(api.ErrMany, 0))
	wantExprFault(sum+"+1", fault(api.ErrMany, 0))
	wantExprFault(sum+"<1", fault(api.ErrMany, 0))
	wantExprFault(sum+"<1<1", fault(api.ErrMany, 0))
	wantExprFault("-("+sum+")*1", fault(api.ErrMany, 0))
	wantExprFault("(-"+sum+")*1", fault(api.ErrMany, 0))
	// What is in brackets is an expression, which is over ahead of the one around it.
	wantExprFault("(--"+sum+")", fault(api.ErrMany, 1))
	wantExprFault("1+(("+sum+"+1)*2)", fault(api.ErrMany, 4))
	wantExprFault("1+("+sum+")+(1+"+sum+")", fault(api.ErrMany, len("1+("+sum+")+(")))
	wantExprFault("(--"+sum, fault(api.ErrMany, 1))
	// Each argument is an expression of its own.
	parsed(t, stage("spawn b(-"+sum+",-"+sum+");"))
	wantFault(t, stage("spawn b(-"+sum+",--"+sum+");"), fault(api.ErrMany, bodyAt+len("spawn b(-"+sum+",")))
}

// P3.1: a fault within an expression of too many parts is told ahead of that.
func TestParseOfFaultsWithinTooManyParts(t *testing.T) {
	much := "emit 1" + rep("+1", api.MaxTerms)
	wantAtMark(t, "stage a(){"+much+"+@;}", api.ErrForm)
	wantAtMark(t, "stage a(){"+much+"+@)", api.ErrForm)
	wantAtMark(t, "stage a(){"+much+"*@emit", api.ErrForm)
	wantAtMark(t, "stage a(){"+much+"-@", api.ErrShort)
	wantAtMark(t, "stage a(){"+much+"+(1@;}", api.ErrForm)
	wantAtMark(t, "stage a(){"+much+"+(1 # x\n@", api.ErrShort)
	wantAtMark(t, "stage a(){"+much+"<1+@<", api.ErrForm)
	wantAtMark(t, "stage a(){"+much+"+"+rep("(", api.MaxOpen)+"@(", api.ErrDeep)
	wantAtMark(t, "stage a(){emit @1"+rep("+1", api.MaxTerms)+"<1<1;}", api.ErrMany)
	wantAtMark(t, "stage a(){"+rep("emit 1;", api.MaxStmts-1)+"emit @1"+rep("+1", api.MaxTerms)+";emit 1;}", api.ErrMany)
	wantFault(t, "stage a(){"+much+"; $", fault(api.ErrText, len("stage a(){"+much+"; ")))
	wantAtMark(t, "stage a(){emit "+rep("-", api.MaxOpen)+"@-1;}", api.ErrDeep)
	wantAtMark(t, "stage a(){emit @"+rep("-", api.MaxOpen)+"1;}", api.ErrMany)
}

// P1: the longest texts are read to their end.
func TestParseOfTheLongestTexts(t *testing.T) {
	for _, c := range []struct {
		ahead, one string
		want       int
	}{
		{"", "(", api.ErrForm}, {"stage a(){emit ", "(", api.ErrDeep}, {"stage a(){emit ", "-", api.ErrDeep},
		{"stage a(){emit 1", "+1", api.ErrMany}, {"stage a(){emit 1", "*1", api.ErrMany}, {"stage a(){emit 1", "-1", api.ErrMany},
		{"stage a(){", "if 1{", api.ErrDeep}, {"stage a(){", "emit 1;", api.ErrMany}, {"stage a(", "b int,", api.ErrMany},
		{"stage a(){spawn a(", "1,", api.ErrMany}, {"", "stage a(){}", api.ErrMany}, {"stage a(b ", "send ", api.ErrDeep},
		{"stage a(){", "if 1{}else{}", api.ErrMany}, {"", " ", api.ErrShort}, {"stage a(){}", "#", 0}, {"stage a(){}", "\n", 0},
	} {
		src := c.ahead + rep(c.one, (api.MaxText-len(c.ahead))/len(c.one))
		p, f := Parse(src)
		if f.Code != c.want || f.Code != 0 && len(p.Stages) != 0 {
			t.Errorf("Parse(%q): %d stages %v, want the code %d", short(src), len(p.Stages), f, c.want)
		}
		if want, _ := slowFault(src); f != want {
			t.Errorf("Parse(%q): %v, want %v", short(src), f, want)
		}
		wantFault(t, src+rep(" ", api.MaxText+1-len(src)), fault(api.ErrSize, api.MaxText))
	}
}
