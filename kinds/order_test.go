package kinds

import (
	"fmt"
	"slices"
	"testing"

	"pipewright/api"
)

// long has each kind of statement, and stages around main.
const long = `
stage f(a int, b recv int, c send recv int) {
	emit a + 1;
	drain b;
	if a { close c; } else { let d = a; }
}
stage g() { }
stage main(in recv int) {
	let x = 1 + 2;
	set x = x * x;
	chan s r int 1;
	chan t u recv int 2;
	clone v s;
	send s x + x;
	send t in;
	spawn f(x + x, r, t);
	take y from in {
		emit y - y;
		let k = y;
	} else {
		emit x;
		close v;
	}
	for z from u {
		drain z;
	}
	repeat x {
		close s;
	}
	if x < 1 {
		abandon r;
	} else {
		drain in;
	}
	emit x;
}
stage last(q int, w send int) {
	set q = q;
	close w;
}`

// The numbers of long's statements.
const (
	emitA = iota
	drainB
	ifA
	closeC
	letD
	letX
	setX
	chanS
	chanT
	cloneV
	sendS
	sendT
	spawnF
	takeY
	emitY
	letK
	emitElse
	closeV
	forZ
	drainZ
	repeatX
	closeS
	ifX
	abandonR
	drainIn
	emitX
	setQ
	closeW
	stmtsOfLong
)

// spoil makes one thing wrong, and nothing that stands ahead of it.
type spoil struct {
	what     string
	do       func(p *api.Program)
	code, at int
}

func atStage(what string, i int, do func(s *api.Stage), code int) spoil {
	return spoil{what, func(p *api.Program) { do(&p.Stages[i]) }, code, -2 - i}
}

func atStmt(what string, number int, do func(s *api.Stmt), code int) spoil {
	return spoil{what, func(p *api.Program) { do(stmtsOf(p)[number]) }, code, number}
}

func setA(to string) func(s *api.Stmt) { return func(s *api.Stmt) { s.A = to } }
func setB(to string) func(s *api.Stmt) { return func(s *api.Stmt) { s.B = to } }

func setE(e int, to api.Expr) func(s *api.Stmt) {
	return func(s *api.Stmt) { s.E[e] = to }
}

// setPart lays a name where the part of that number of the first E stands.
func setPart(part int, to string) func(s *api.Stmt) {
	return func(s *api.Stmt) { *partsOf(&s.E[0])[part] = name(to) }
}

// fill gives a stage's end names till it binds one too many.
func fill(bound int) func(s *api.Stage) {
	return func(s *api.Stage) {
		for i := range api.MaxVars + 1 - bound {
			s.Body = append(s.Body, let(fmt.Sprint("new", i)))
		}
	}
}

// spoils stand in the chapter's order, for long.
func spoils() []spoil {
	return slices.Concat(spoilsOfRender(), spoilsOfF(), spoilsOfMain(), spoilsOfBlocks(), []spoil{
		atStage("main's names", 2, fill(10), api.ErrMany),
		atStage("the last one's name", 3, func(s *api.Stage) { s.Name = "f" }, api.ErrTwice),
		atStage("the last one's parameters", 3, func(s *api.Stage) { s.Params[1].Name = "q" }, api.ErrTwice),
		atStmt("the last one's set", setQ, setA("zz"), api.ErrNone),
		atStmt("what is set there", setQ, setPart(0, "w"), api.ErrType),
		atStmt("its close", closeW, setA("q"), api.ErrType),
		atStage("the last one's names", 3, fill(2), api.ErrMany),
		{"no main", func(p *api.Program) { p.Stages[2].Name = "mine" }, api.ErrMain, -1},
	})
}

func spoilsOfRender() []spoil {
	return []spoil{
		atStage("a stage's name", 0, func(s *api.Stage) { s.Name = "let" }, api.ErrName),
		atStmt("a form", drainB, func(s *api.Stmt) { s.Do = 15 }, api.ErrForm),
		atStage("the last stage's type", 3, func(s *api.Stage) { s.Params[1].T = "" }, api.ErrType),
		atStmt("the last statement", closeW, setA("close"), api.ErrName),
		{"the text's size", func(p *api.Program) {
			p.Stages[3].Body = append(p.Stages[3].Body, greats(150)...)
		}, api.ErrSize, -1},
	}
}

func spoilsOfF() []spoil {
	return []spoil{
		atStage("f's parameters", 0, func(s *api.Stage) { s.Params[2].Name = "a" }, api.ErrTwice),
		atStmt("f's first", emitA, setPart(1, "zz"), api.ErrNone),
		atStmt("f's second, known", drainB, setA("zz"), api.ErrNone),
		atStmt("f's second, its type", drainB, setA("c"), api.ErrType),
		atStmt("f's if", ifA, setPart(0, "b"), api.ErrType),
		atStmt("in its Body", closeC, setA("b"), api.ErrType),
		atStmt("in its Else", letD, setA("b"), api.ErrTwice),
		atStmt("in its Else, E", letD, setPart(0, "d"), api.ErrNone),
		atStage("f's names", 0, fill(4), api.ErrMany),
		atStage("g's name", 1, func(s *api.Stage) { s.Name = "f" }, api.ErrTwice),
		atStage("g's parameters", 1, func(s *api.Stage) { s.Params = append(in(), in()...) }, api.ErrTwice),
		atStage("g's names", 1, fill(0), api.ErrMany),
	}
}

func spoilsOfMain() []spoil {
	return []spoil{
		atStage("main's name", 2, func(s *api.Stage) { s.Name = "f" }, api.ErrTwice),
		atStage("main's parameters", 2, func(s *api.Stage) { s.Params = append(s.Params, in()...) }, api.ErrTwice),
		atStmt("let's A", letX, setA("in"), api.ErrTwice),
		atStmt("let's first name", letX, setPart(1, "x"), api.ErrNone),
		atStmt("let's second name", letX, setPart(2, "in"), api.ErrType),
		atStmt("set's A, known", setX, setA("zz"), api.ErrNone),
		atStmt("set's A, its type", setX, setA("in"), api.ErrType),
		atStmt("set's first name", setX, setPart(1, "zz"), api.ErrNone),
		atStmt("set's second name", setX, setPart(2, "in"), api.ErrType),
		atStmt("chan's A", chanS, setA("x"), api.ErrTwice),
		atStmt("chan's N", chanS, func(s *api.Stmt) { s.N = 0 }, api.ErrRange),
		atStmt("chan's T", chanS, func(s *api.Stmt) { s.T = "rrri" }, api.ErrType),
		atStmt("chan's B", chanT, setB("t"), api.ErrTwice),
		atStmt("a chan's N", chanT, func(s *api.Stmt) { s.N = 6 }, api.ErrRange),
		atStmt("a chan's T", chanT, func(s *api.Stmt) { s.T = "sssi" }, api.ErrType),
		atStmt("clone's A", cloneV, setA("x"), api.ErrTwice),
		atStmt("clone's B, known", cloneV, setB("zz"), api.ErrNone),
		atStmt("clone's B, its type", cloneV, setB("r"), api.ErrType),
		atStmt("send's A, known", sendS, setA("y"), api.ErrNone),
		atStmt("send's A, its type", sendS, setA("r"), api.ErrType),
		atStmt("send's first name", sendS, setPart(1, "in"), api.ErrType),
		atStmt("send's second name", sendS, setPart(2, "k"), api.ErrNone),
		atStmt("a send's A, its type", sendT, setA("x"), api.ErrType),
		atStmt("a send's E, no name", sendT, setE(0, op(api.OpNeg, name("zz"))), api.ErrType),
		atStmt("a send's E, known", sendT, setE(0, name("zz")), api.ErrNone),
		atStmt("a send's E, its type", sendT, setE(0, name("u")), api.ErrType),
		atStmt("spawn's A", spawnF, setA("last"), api.ErrStage),
		atStmt("spawn's count", spawnF, func(s *api.Stmt) { s.E = append(s.E, num(1)) }, api.ErrCount),
		atStmt("spawn's first name", spawnF, setPart(1, "r"), api.ErrType),
		atStmt("spawn's second name", spawnF, setPart(2, "zz"), api.ErrNone),
		atStmt("spawn's second E", spawnF, setE(1, num(1)), api.ErrType),
		atStmt("spawn's third E, known", spawnF, setE(2, name("zz")), api.ErrNone),
		atStmt("spawn's third E, its type", spawnF, setE(2, name("u")), api.ErrType),
	}
}

func spoilsOfBlocks() []spoil {
	return []spoil{
		atStmt("take's A", takeY, setA("v"), api.ErrTwice),
		atStmt("take's B, known", takeY, setB("zz"), api.ErrNone),
		atStmt("take's B, its type", takeY, setB("t"), api.ErrType),
		atStmt("in take's Body, the first name", emitY, setPart(1, "z"), api.ErrNone),
		atStmt("in take's Body, the second name", emitY, setPart(2, "in"), api.ErrType),
		atStmt("in take's Body, a let", letK, setA("y"), api.ErrTwice),
		atStmt("in take's Else", emitElse, setPart(0, "y"), api.ErrNone),
		atStmt("in take's Else, behind", closeV, setA("k"), api.ErrNone),
		atStmt("for's A", forZ, setA("k"), api.ErrTwice),
		atStmt("for's B, known", forZ, setB("y"), api.ErrNone),
		atStmt("for's B, its type", forZ, setB("x"), api.ErrType),
		atStmt("in for's Body", drainZ, setA("x"), api.ErrType),
		atStmt("repeat's E", repeatX, setPart(0, "z"), api.ErrNone),
		atStmt("in repeat's Body", closeS, setA("r"), api.ErrType),
		atStmt("if's first name", ifX, setPart(1, "in"), api.ErrType),
		atStmt("in if's Body", abandonR, setA("s"), api.ErrType),
		atStmt("in if's Else", drainIn, setA("z"), api.ErrNone),
		atStmt("the last one", emitX, setPart(0, "s"), api.ErrType),
	}
}

func TestLongIsRight(t *testing.T) {
	p := parsed(t, long)
	if n := len(stmtsOf(&p)); n != stmtsOfLong {
		t.Fatalf("%d statements", n)
	}
	wantVars(t, long,
		"a i, b ri, c sri, d i", "",
		"in ri, x i, s si, r ri, t sri, u rri, v si, y i, k i, z ri",
		"q i, w si")
}

// P5.1: each fault alone, with its At.
func TestEachFault(t *testing.T) {
	for _, s := range spoils() {
		p := parsed(t, long)
		s.do(&p)
		if got := Check(p); got != fault(s.code, s.at) {
			t.Errorf("%s: %v, want %v", s.what, got, fault(s.code, s.at))
		}
		wantFault(t, p, s.code, s.at)
	}
}

// P5.1: of two faults the one is told that the chapter names first.
func TestPairsOfFaults(t *testing.T) {
	all := spoils()
	for i, first := range all {
		for _, second := range all[i+1:] {
			p := parsed(t, long)
			// What is first comes over the second one, if they are about one thing.
			second.do(&p)
			first.do(&p)
			if got := Check(p); got != fault(first.code, first.at) {
				t.Errorf("%s, and %s: %v, want %v", first.what, second.what, got, fault(first.code, first.at))
			}
		}
	}
}
