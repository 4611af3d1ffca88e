package render

import (
	"math"
	"testing"

	"pipewright/api"
)

// longer is the sample with a stage behind it, and with a spawn of more and
// greater arguments.
func longer() api.Program {
	p := twin(sample())
	seven := op(api.OpAdd, op(api.OpMul, num(1), name("b")), op(api.OpLess, neg(name("c")), num(2)))
	p.Stages[2].Body = append(p.Stages[2].Body, api.Stmt{Do: api.DoSpawn, A: "f", E: es(seven, twinOf(seven), num(3))})
	p.Stages = append(p.Stages, api.Stage{
		Name: "last", Params: []api.Param{{Name: "a", T: "i"}, {Name: "b", T: "i"}}, Body: emits(2),
	})
	return p
}

func twinOf(x api.Expr) api.Expr {
	p := twin(body(emit(x)))
	return p.Stages[0].Body[0].E[0]
}

// spoil makes one thing wrong, and nothing that stands ahead of it.
type spoil struct {
	what     string
	do       func(p *api.Program)
	code, at int
}

func atStage(what string, i int, do func(s *api.Stage), code int) spoil {
	return spoil{what, func(p *api.Program) { do(&p.Stages[i]) }, code, -2 - i}
}

func atStmt(what string, number int, do func(s *api.Stmt), code int) spoil {
	return spoil{what, func(p *api.Program) { do(stmtsOf(p)[number]) }, code, number}
}

// atPart counts the parts of the E of that number, without minus signs that
// another spoil may have laid ahead of it.
func atPart(what string, number, e, part int, do func(x *api.Expr), code int) spoil {
	return spoil{what, func(p *api.Program) { do(partsOf(&stmtsOf(p)[number].E[e])[part]) }, code, number}
}

func many(s *api.Stage) {
	for len(s.Params) <= api.MaxParams {
		s.Params = append(s.Params, api.Param{Name: "x", T: "i"})
	}
}

// spoils stand in the chapter's order, for longer().
func spoils() []spoil {
	const chan1, clone, take, fork, lone, end, spawn = 6, 8, 11, 16, 17, 19, 20
	noName := func(x *api.Expr) { x.Name = "let" }
	badOp := func(x *api.Expr) { x.Op = 9 }
	badNum := func(x *api.Expr) { x.N = -1 }
	extra := func(x *api.Expr) { x.L = append(x.L, num(1)) }
	grown := func(s *api.Stmt, e int) { s.E[e] = negs(api.MaxTerms, s.E[e]) }
	return []spoil{
		{"eleven stages", func(p *api.Program) {
			for len(p.Stages) <= api.MaxStages {
				p.Stages = append(p.Stages, api.Stage{Name: "x"})
			}
		}, api.ErrMany, -1},
		atStage("a stage's name", 0, func(s *api.Stage) { s.Name = "" }, api.ErrName),
		atStage("a stage's parameters", 0, many, api.ErrMany),
		atStage("the first one's name", 0, func(s *api.Stage) { s.Params[0].Name = "from" }, api.ErrName),
		atStage("the first one's type", 0, func(s *api.Stage) { s.Params[0].T = "r" }, api.ErrType),
		atStage("the second one's name", 0, func(s *api.Stage) { s.Params[1].Name = "1" }, api.ErrName),
		atStage("the second one's type", 0, func(s *api.Stage) { s.Params[1].T = "ssssi" }, api.ErrType),
		atStmt("a for's form", 0, func(s *api.Stmt) { s.N = 1 }, api.ErrForm),
		atStmt("a for's A", 0, func(s *api.Stmt) { s.A = "" }, api.ErrName),
		atStmt("a for's B", 0, func(s *api.Stmt) { s.B = "B" }, api.ErrName),
		atStmt("a form in its Body", 1, func(s *api.Stmt) { s.Do = 0 }, api.ErrForm),
		atStmt("parts in its Body", 1, func(s *api.Stmt) { grown(s, 0) }, api.ErrMany),
		atStmt("behind its Body", 2, func(s *api.Stmt) { s.A = "for" }, api.ErrName),
		atStage("the second stage's name", 1, func(s *api.Stage) { s.Name = "stage" }, api.ErrName),
		atStage("the third stage's name", 2, func(s *api.Stage) { s.Name = "thirteenbytes" }, api.ErrName),
		atStage("its third type", 2, func(s *api.Stage) { s.Params[2].T = "" }, api.ErrType),
		atStmt("two E of a let", 4, func(s *api.Stmt) { s.E = append(s.E, num(1)) }, api.ErrForm),
		atStmt("a chan's form", chan1, func(s *api.Stmt) { s.Else = emits(1) }, api.ErrForm),
		atStmt("a chan's A", chan1, func(s *api.Stmt) { s.A = "" }, api.ErrName),
		atStmt("a chan's B", chan1, func(s *api.Stmt) { s.B = "" }, api.ErrName),
		atStmt("a chan's T", chan1, func(s *api.Stmt) { s.T = "" }, api.ErrType),
		atStmt("a chan's N", chan1, func(s *api.Stmt) { s.N = -1 }, api.ErrRange),
		atStmt("a clone's T", clone, func(s *api.Stmt) { s.T = "i" }, api.ErrForm),
		atStmt("a clone's A", clone, func(s *api.Stmt) { s.A = "a_" }, api.ErrName),
		atStmt("a clone's B", clone, func(s *api.Stmt) { s.B = "a " }, api.ErrName),
		atStmt("a take's form", take, func(s *api.Stmt) { s.E = es(num(1)) }, api.ErrForm),
		atStmt("a take's B", take, func(s *api.Stmt) { s.B = "int" }, api.ErrName),
		atStmt("a repeat's E", take+1, func(s *api.Stmt) { s.E = nil }, api.ErrForm),
		atPart("a part in the Body's Body", take+2, 0, 0, noName, api.ErrName),
		atPart("a part of a minus", take+3, 0, 1, noName, api.ErrName),
		atStmt("the Else's first", take+4, func(s *api.Stmt) { s.A = "" }, api.ErrName),
		atStmt("the Else's if", fork, func(s *api.Stmt) { s.T = "i" }, api.ErrForm),
		atPart("its E", fork, 0, 0, noName, api.ErrName),
		atPart("in the Else's Else", lone, 0, 2, badNum, api.ErrNumber),
		atStmt("behind the Else", end-1, func(s *api.Stmt) { s.A = "" }, api.ErrName),
		atStmt("behind that", end, func(s *api.Stmt) { s.A = "" }, api.ErrName),
		atStmt("a spawn's form", spawn, func(s *api.Stmt) { s.B = "x" }, api.ErrForm),
		atStmt("a spawn's E", spawn, func(s *api.Stmt) { s.E = append(s.E, es(num(4), num(5), num(6), num(7))...) }, api.ErrMany),
		atStmt("a spawn's A", spawn, func(s *api.Stmt) { s.A = "spawn" }, api.ErrName),
		atStmt("its first E's parts", spawn, func(s *api.Stmt) { grown(s, 0) }, api.ErrMany),
		atPart("the first one's Op", spawn, 0, 0, badOp, api.ErrForm),
		atPart("its product's Op", spawn, 0, 1, badOp, api.ErrForm),
		atPart("the product's number", spawn, 0, 2, badNum, api.ErrNumber),
		atPart("the product's name", spawn, 0, 3, noName, api.ErrName),
		atPart("the comparison's L", spawn, 0, 4, extra, api.ErrForm),
		atPart("its minus", spawn, 0, 5, func(x *api.Expr) { x.Name = "a" }, api.ErrForm),
		atPart("what is behind that", spawn, 0, 6, noName, api.ErrName),
		atPart("the last number", spawn, 0, 7, badNum, api.ErrNumber),
		atStmt("its second E's parts", spawn, func(s *api.Stmt) { grown(s, 1) }, api.ErrMany),
		atPart("the second one's N", spawn, 1, 0, func(x *api.Expr) { x.N = 1 }, api.ErrForm),
		atPart("a number of it", spawn, 1, 2, badNum, api.ErrNumber),
		atPart("a name of it", spawn, 1, 3, noName, api.ErrName),
		atPart("its third E", spawn, 2, 0, badNum, api.ErrNumber),
		{"301 statements", func(p *api.Program) {
			p.Stages[2].Body = append(p.Stages[2].Body, emits(api.MaxStmts-spawn)...)
			stmtsOf(p)[api.MaxStmts].Do = 0
		}, api.ErrMany, api.MaxStmts},
		atStage("the last stage's name", 3, func(s *api.Stage) { s.Name = "else" }, api.ErrName),
		atStage("the last stage's parameters", 3, many, api.ErrMany),
		{"its last type", func(p *api.Program) { p.Stages[3].Params[1].T = "is" }, api.ErrType, -5},
		{"the last stage's first", func(p *api.Program) { p.Stages[3].Body[0].A = "x" }, api.ErrForm, spawn + 1},
		{"and its second", func(p *api.Program) { p.Stages[3].Body[1].E = nil }, api.ErrForm, spawn + 2},
		{"a long text", func(p *api.Program) {
			for range 25 {
				p.Stages[3].Body = append(p.Stages[3].Body, api.Stmt{Do: api.DoSpawn, A: "f", E: es(great(), great(), great())})
			}
		}, api.ErrSize, -1},
	}
}

// great has a text of some 210 bytes.
func great() api.Expr {
	x := num(math.MaxInt64 / 10)
	for range (api.MaxTerms - 1) / 2 {
		x = op(api.OpAdd, x, num(math.MaxInt64/10))
	}
	return x
}

// P4.1: each fault, alone, with its At.
func TestCheckOfEachFault(t *testing.T) {
	printed(t, longer())
	for _, s := range spoils() {
		p := longer()
		s.do(&p)
		wantFault(t, p, s.code, s.at)
		if got := slowCheck(p); got != fault(s.code, s.at) {
			t.Errorf("%s: the second one tells %v, want %v", s.what, got, fault(s.code, s.at))
		}
		if t.Failed() {
			t.Fatalf("with %s", s.what)
		}
	}
}

// P4.1: of two faults the first that the chapter names is told.
func TestCheckOfTwoFaults(t *testing.T) {
	all := spoils()
	for i, first := range all {
		for _, second := range all[i+1:] {
			p := longer()
			second.do(&p) // it stands behind, so that the first one's place stays
			first.do(&p)
			wantFault(t, p, first.code, first.at)
			if t.Failed() {
				t.Fatalf("with %s and %s", first.what, second.what)
			}
		}
	}
}

// P4.1: all that is wrong from the first one on.
func TestCheckOfManyFaults(t *testing.T) {
	all := spoils()
	for i, first := range all {
		p := longer()
		for k := len(all) - 1; k >= i; k-- {
			all[k].do(&p)
		}
		wantFault(t, p, first.code, first.at)
		if t.Failed() {
			t.Fatalf("from %s on", first.what)
		}
	}
}

// P4.1
func TestCheckOfNoStages(t *testing.T) {
	wantFault(t, api.Program{}, api.ErrNone, -1)
	wantFault(t, api.Program{Stages: []api.Stage{}}, api.ErrNone, -1)
}

// P4.1: numbers go through the whole program.
func TestCheckTellsNumbers(t *testing.T) {
	count := len(stmtsOf(ref(longer())))
	if count != 23 {
		t.Fatalf("%d statements", count)
	}
	for number := range count {
		for _, do := range []int{0, -1, api.DoIf + 1, math.MinInt, math.MaxInt} {
			p := longer()
			stmtsOf(&p)[number].Do = do
			wantFault(t, p, api.ErrForm, number)
			p = longer()
			stmtsOf(&p)[number].T = "?"
			if stmtsOf(&p)[number].Do == api.DoChan {
				wantFault(t, p, api.ErrType, number)
			} else {
				wantFault(t, p, api.ErrForm, number)
			}
		}
	}
	for i := range 10 {
		p := api.Program{}
		for range 10 {
			p.Stages = append(p.Stages, api.Stage{Name: "a", Body: emits(1)})
		}
		p.Stages[i].Name = "int"
		wantFault(t, p, api.ErrName, -2-i)
		p.Stages[i].Name = "a"
		p.Stages[i].Body[0].E[0].Op = 0
		wantFault(t, p, api.ErrForm, i)
	}
}

func ref(p api.Program) *api.Program { return &p }

// kindOf gives a statement of each kind that may stand, all its fields filled.
func kindOf(do int) api.Stmt {
	s := api.Stmt{Do: do, At: 77}
	for field, fill := range map[string]func(){
		"A": func() { s.A = "a" }, "B": func() { s.B = "b" }, "T": func() { s.T = "si" }, "N": func() { s.N = 2 },
		"E": func() { s.E = es(num(1)) }, "Body": func() { s.Body = emits(2) }, "Else": func() { s.Else = emits(3) },
	} {
		if hasWord(fieldsOf[do], field) {
			fill()
		}
	}
	return s
}

// P4.1: fields that a kind does not have, each set alone; and those that it
// has, each empty.
func TestCheckOfFields(t *testing.T) {
	fields := []struct {
		name        string
		fill, empty func(s *api.Stmt)
		without     int
	}{
		{"A", func(s *api.Stmt) { s.A = "a" }, func(s *api.Stmt) { s.A = "" }, api.ErrName},
		{"B", func(s *api.Stmt) { s.B = "b" }, func(s *api.Stmt) { s.B = "" }, api.ErrName},
		{"T", func(s *api.Stmt) { s.T = "i" }, func(s *api.Stmt) { s.T = "" }, api.ErrType},
		{"N", func(s *api.Stmt) { s.N = 1 }, func(s *api.Stmt) { s.N = 0 }, 0},
		{"N", func(s *api.Stmt) { s.N = -1 }, func(s *api.Stmt) { s.N = 0 }, 0},
		{"E", func(s *api.Stmt) { s.E = es(num(1)) }, func(s *api.Stmt) { s.E = nil }, api.ErrForm},
		{"Body", func(s *api.Stmt) { s.Body = emits(1) }, func(s *api.Stmt) { s.Body = nil }, 0},
		{"Else", func(s *api.Stmt) { s.Else = emits(1) }, func(s *api.Stmt) { s.Else = nil }, 0},
	}
	for do := api.DoLet; do <= api.DoIf; do++ {
		printed(t, body(kindOf(do)))
		for _, field := range fields {
			has, s := hasWord(fieldsOf[do], field.name), kindOf(do)
			ahead := emit(num(1))
			switch {
			case !has:
				field.fill(&s)
				wantFault(t, body(ahead, s), api.ErrForm, 1)
			case field.without == 0 || do == api.DoSpawn && field.name == "E":
				field.empty(&s)
				printed(t, body(ahead, s))
			default:
				field.empty(&s)
				wantFault(t, body(ahead, s), field.without, 1)
			}
		}
	}
	// Empty lists are none.
	for do := api.DoLet; do <= api.DoIf; do++ {
		s := kindOf(do)
		if len(s.E) == 0 {
			s.E = []api.Expr{}
		}
		if len(s.Body) == 0 {
			s.Body = []api.Stmt{}
		}
		if len(s.Else) == 0 {
			s.Else = []api.Stmt{}
		}
		printed(t, body(s))
	}
}

// P4.1: how many E there are.
func TestCheckOfHowManyE(t *testing.T) {
	for do := api.DoLet; do <= api.DoIf; do++ {
		for n := range 3 * api.MaxParams {
			s := kindOf(do)
			s.E = nil
			for range n {
				s.E = append(s.E, num(1))
			}
			fits := 0
			if hasWord(fieldsOf[do], "E") {
				fits = 1
			}
			switch {
			case do == api.DoSpawn && n > api.MaxParams:
				wantFault(t, body(s), api.ErrMany, 0)
			case do == api.DoSpawn || n == fits:
				printed(t, body(s))
			default:
				wantFault(t, body(s), api.ErrForm, 0)
			}
		}
	}
}

// P4.1: names that no text can say, wherever a name stands.
func TestCheckOfNames(t *testing.T) {
	bad := []string{"", "A", "1", "1a", "a_", "a b", " a", "a ", "a\n", "\x00", "\xff", "é", "aé", "a;", "-a", "abcdefghijklm", rep("a", 1<<16), "from", "int", "stage", "send", "if"}
	good := []string{"a", "z", "a1", "abcdefghijkl", "iff", "ints", "s", "stage1", "a00000000000"}
	for do := api.DoLet; do <= api.DoIf; do++ {
		for _, text := range append(bad, good...) {
			want := api.ErrName
			if slowName(text) {
				want = 0
			}
			a, b := kindOf(do), kindOf(do)
			a.A, b.B = text, text
			for field, s := range map[string]api.Stmt{"A": a, "B": b} {
				switch {
				case !hasWord(fieldsOf[do], field) && text != "":
					wantFault(t, body(s), api.ErrForm, 0)
				case !hasWord(fieldsOf[do], field) || want == 0:
					printed(t, body(s))
				default:
					wantFault(t, body(s), want, 0)
				}
			}
		}
	}
	for _, text := range bad {
		wantFault(t, stages(api.Stage{Name: text}), api.ErrName, -2)
		wantFault(t, stages(api.Stage{Name: "a", Params: []api.Param{{Name: text, T: "i"}}}), api.ErrName, -2)
		wantFault(t, body(emit(name(text))), api.ErrName, 0)
		wantFault(t, body(emit(op(api.OpAdd, num(1), neg(name(text))))), api.ErrName, 0)
	}
	for _, text := range good {
		wantText(t, stages(api.Stage{Name: text}), "stage "+text+"() {\n}\n")
		wantText(t, stages(api.Stage{Name: "a", Params: []api.Param{{Name: text, T: "i"}}}), "stage a("+text+" int) {\n}\n")
		wantExpr(t, name(text), text)
	}
}

// P4.1: types that are none, wherever a type stands.
func TestCheckOfTypes(t *testing.T) {
	for _, typ := range []string{"", "s", "r", "ii", "is", "sis", "x", "si ", " i", "I", "int", "send int", "ssssi", "rsrsi", "sri\n", "si\x00", rep("s", 1<<16) + "i"} {
		wantFault(t, stages(api.Stage{Name: "a"}, api.Stage{Name: "a", Params: []api.Param{{Name: "b", T: typ}}}), api.ErrType, -3)
		wantFault(t, body(emit(num(1)), api.Stmt{Do: api.DoChan, A: "a", B: "b", T: typ}), api.ErrType, 1)
	}
}

// P4.1: an Expr of each operation with each thing that may be wrong.
func TestCheckOfParts(t *testing.T) {
	of := func(op, parts int) api.Expr {
		x := api.Expr{Op: op}
		for range parts {
			x.L = append(x.L, num(1))
		}
		return x
	}
	around := []func(x api.Expr) api.Expr{
		func(x api.Expr) api.Expr { return x },
		neg,
		func(x api.Expr) api.Expr { return op(api.OpMul, x, num(2)) },
		func(x api.Expr) api.Expr { return op(api.OpMul, num(2), x) },
	}
	for o := -2; o < 12; o++ {
		want := 2
		switch {
		case o < api.OpNum || o > api.OpEq:
			want = -1
		case o == api.OpNum || o == api.OpName:
			want = 0
		case o == api.OpNeg:
			want = 1
		}
		for parts := range 5 {
			for bits := range 4 {
				x := of(o, parts)
				fits := parts == want
				if bits&1 > 0 {
					x.N = 5
					fits = fits && o == api.OpNum
				}
				if bits&2 > 0 {
					x.Name = "a"
					fits = fits && o == api.OpName
				}
				for _, in := range around {
					p := body(api.Stmt{Do: api.DoSend, A: "a", E: es(in(x))})
					switch {
					case !fits:
						wantFault(t, p, api.ErrForm, 0)
					case o == api.OpName && bits == 0:
						wantFault(t, p, api.ErrName, 0)
					default:
						printed(t, p)
					}
				}
			}
		}
	}
	for _, o := range []int{math.MinInt, math.MaxInt, 1 << 32, 1<<32 + api.OpNum} {
		wantFault(t, body(emit(api.Expr{Op: o})), api.ErrForm, 0)
	}
}

// P4.1: a fault in each E of each kind that has some.
func TestCheckOfEachKindsE(t *testing.T) {
	for do := api.DoLet; do <= api.DoIf; do++ {
		s := kindOf(do)
		for i := range s.E {
			s.E[i] = op(api.OpSub, num(1), name(""))
			wantFault(t, body(s), api.ErrName, 0)
			s.E[i] = op(api.OpSub, num(1), num(-1))
			wantFault(t, body(s), api.ErrNumber, 0)
			s.E[i] = negs(api.MaxTerms, num(1))
			wantFault(t, body(s), api.ErrMany, 0)
		}
	}
}
