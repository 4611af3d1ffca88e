package lower

import (
	"testing"

	"pipewright/api"
)

// long has each kind of statement, and stages around main.
const long = `
stage f(a int, b recv int, c send recv int) {
	emit a + 1;
	drain b;
	if a { close c; } else { let d = a; close c; }
}
stage g() { }
stage main(in recv int) {
	let x = 1 + 2;
	set x = x * x;
	chan s r int 1;
	chan t u recv int 2;
	clone v s;
	send s x + x;
	send t in;
	spawn f(x + x, r, t);
	take y from in {
		emit y - y;
		let k = y;
	} else {
		emit x;
		close v;
	}
	for z from u {
		drain z;
	}
	repeat x {
		close s;
	}
	if x < 1 {
		abandon r;
	} else {
		drain in;
	}
	emit x;
}
stage last(q int, w send int, e recv send send int) {
	repeat 2 { set q = q; }
	spawn g();
	close w;
}`

// The numbers of long's stages.
const (
	procF = iota
	procG
	procMain
	procLast
	procsOfLong
)

// The numbers of main's instructions in long.
const (
	letX = iota
	setX
	chanS
	chanT
	cloneV
	sendS
	giveT
	spawnF
	takeY
	emitY
	letK
	jumpY
	emitElse
	closeV
	takeZ
	drainZ
	overZ
	jumpZ
	turnsX
	countX
	closeS
	jumpX
	ifX
	abandonR
	jumpIf
	drainIn
	emitX
	overS
	overR
	overT
	overU
	overV
	overIn
	exitMain
	insOfMain
)

// The numbers of main's variables in long.
const (
	varIn = iota
	varX
	varS
	varR
	varT
	varU
	varV
	varY
	varK
	varZ
	varTurns
	varsOfMain
)

func TestLongIsRight(t *testing.T) {
	c := lowered(t, long)
	p := c.Procs[procMain]
	if len(c.Procs) != procsOfLong || c.Main != procMain || len(p.Ins) != insOfMain || len(p.Vars) != varsOfMain {
		t.Fatalf("%d Procs, %d instructions, %d variables", len(c.Procs), len(p.Ins), len(p.Vars))
	}
	if got := toldVars(p); got != "in ri, x i, s si, r ri, t sri, u rri, v si, y i, k i, z ri, i" {
		t.Errorf("variables %s", got)
	}
	if got := toldBlocks(p); got != "body, then, else, for A5, repeat N6, then, else" {
		t.Errorf("blocks %s", got)
	}
	seen := map[int]int{}
	for _, ins := range p.Ins {
		seen[ins.Op]++
	}
	for op := range api.InExit {
		if seen[op+1] == 0 {
			t.Errorf("no instruction %s", ops[op+1])
		}
	}
}

// spoil makes one thing wrong, and nothing that stands ahead of it.
type spoil struct {
	what     string
	do       func(c *api.Code)
	code, at int
}

func atProc(what string, k int, do func(p *api.Proc), code int) spoil {
	return spoil{what, func(c *api.Code) { do(&c.Procs[k]) }, code, 10000*k - 1}
}

func atIns(what string, k, i int, do func(ins *api.Ins)) spoil {
	return spoil{what, func(c *api.Code) { do(&c.Procs[k].Ins[i]) }, api.ErrCode, 10000*k + i}
}

func setOp(to int) func(ins *api.Ins) { return func(ins *api.Ins) { ins.Op = to } }
func setA(to int) func(ins *api.Ins)  { return func(ins *api.Ins) { ins.A = to } }
func setB(to int) func(ins *api.Ins)  { return func(ins *api.Ins) { ins.B = to } }
func setN(to int) func(ins *api.Ins)  { return func(ins *api.Ins) { ins.N = to } }
func setTo(to int) func(ins *api.Ins) { return func(ins *api.Ins) { ins.To = to } }

func setT(to string) func(ins *api.Ins) { return func(ins *api.Ins) { ins.T = to } }

func setE(to ...api.Push) func(ins *api.Ins) { return func(ins *api.Ins) { ins.E = to } }

func setBlock(to int) func(ins *api.Ins) { return func(ins *api.Ins) { ins.Block = to } }
func setLoop(to int) func(ins *api.Ins)  { return func(ins *api.Ins) { ins.Loop = to } }

func setArg(arg int, to api.Arg) func(ins *api.Ins) {
	return func(ins *api.Ins) { ins.Args[arg] = to }
}

func pushNum(n int64) api.Push { return api.Push{Op: api.PushNum, N: n} }
func pushVar(v int) api.Push   { return api.Push{Op: api.PushVar, N: int64(v)} }

func cleared(p *api.Proc) { p.Ins = nil }

// addBlock lays one more block.
func addBlock(b api.Block) func(p *api.Proc) {
	return func(p *api.Proc) { p.Blocks = append(p.Blocks, b) }
}

func manyIns(p *api.Proc) {
	for len(p.Ins) <= api.MaxIns {
		p.Ins = append(p.Ins, api.Ins{Op: api.InExit})
	}
}

func manyVars(p *api.Proc) {
	for len(p.Vars) <= 2*api.MaxIns {
		p.Vars = append(p.Vars, api.Var{T: "i"})
	}
}

func manyBlocks(p *api.Proc) {
	for len(p.Blocks) <= api.MaxIns {
		p.Blocks = append(p.Blocks, api.Block{Kind: api.BlockThen})
	}
}

// spoils stand in the chapter's order, for long.
func spoils() []spoil {
	all := []spoil{
		{"no Procs", func(c *api.Code) { c.Procs = nil }, api.ErrNone, -1},
		{"eleven Procs", func(c *api.Code) {
			for len(c.Procs) <= api.MaxStages {
				c.Procs = append(c.Procs, c.Procs[0])
			}
		}, api.ErrMany, -1},
	}
	for k, ins := range [][]spoil{spoilsOfF(), spoilsOfG(), spoilsOfMain(), spoilsOfLast()} {
		all = append(all, spoilsOfFrame(k)...)
		all = append(all, ins...)
		all = append(all, spoilOfEnd(k))
	}
	return append(all, spoil{"Main", func(c *api.Code) { c.Main = procF }, api.ErrMain, -1})
}

func spoilsOfFrame(k int) []spoil {
	return []spoil{
		atProc("a variable more", k, func(p *api.Proc) { p.Vars = append(p.Vars, api.Var{T: "ssssi"}) }, api.ErrType),
		atProc("Params below", k, func(p *api.Proc) { p.Params = -1 }, api.ErrCount),
		atProc("Params above", k, func(p *api.Proc) { p.Params = len(p.Vars) + 1 }, api.ErrCount),
		atProc("no instructions", k, cleared, api.ErrNone),
		atProc("instructions", k, manyIns, api.ErrMany),
		atProc("variables", k, manyVars, api.ErrMany),
		atProc("blocks", k, manyBlocks, api.ErrMany),
		atProc("the first block's Kind", k, func(p *api.Proc) { p.Blocks[0].Kind = api.BlockThen }, api.ErrForm),
		atProc("the first block's N", k, func(p *api.Proc) { p.Blocks[0].N = 7 }, api.ErrForm),
		atProc("a block's Kind", k, addBlock(api.Block{Kind: 6}), api.ErrForm),
		atProc("a block's being the second Body", k, addBlock(api.Block{Kind: api.BlockBody}), api.ErrForm),
		atProc("a block's Parent", k, addBlock(api.Block{Kind: api.BlockThen, Parent: -1}), api.ErrForm),
		atProc("a for's A", k, addBlock(api.Block{Kind: api.BlockFor, A: -1}), api.ErrForm),
		atProc("a block's N", k, addBlock(api.Block{Kind: api.BlockElse, N: -1}), api.ErrForm),
	}
}

// spoilOfEnd leaves each instruction right for itself.
func spoilOfEnd(k int) spoil {
	last := [...]int{10, 1, insOfMain, 9}[k]
	return spoil{"the last one", func(c *api.Code) {
		c.Procs[k].Ins[last-1] = api.Ins{Op: api.InEmit, E: []api.Push{pushNum(1)}}
	}, api.ErrCode, 10000*k + last}
}

func spoilsOfF() []spoil {
	return []spoil{
		atIns("f's first", procF, 0, setE()),
		atIns("f's first block", procF, 0, setBlock(-1)),
		atIns("f's drain", procF, 1, setA(0)),
		atIns("f's if", procF, 2, setTo(-1)),
		atIns("f's jump", procF, 4, setTo(100)),
		atIns("f's let", procF, 5, setA(2)),
		atIns("f's over", procF, 7, setA(0)),
	}
}

func spoilsOfG() []spoil {
	return []spoil{
		atIns("g's exit", procG, 0, setLoop(1)),
	}
}

func spoilsOfMain() []spoil {
	return []spoil{
		atIns("let's A", procMain, letX, setA(varIn)),
		atIns("let's E", procMain, letX, setE(pushNum(1), pushNum(1))),
		atIns("set's A", procMain, setX, setA(-1)),
		atIns("set's E", procMain, setX, setE(pushVar(varIn))),
		atIns("chan's A", procMain, chanS, setA(varT)),
		atIns("chan's B", procMain, chanS, setB(varU)),
		atIns("chan's N", procMain, chanS, setN(0)),
		atIns("a chan's T", procMain, chanT, setT("si")),
		atIns("a chan's N", procMain, chanT, setN(6)),
		atIns("clone's A", procMain, cloneV, setA(varT)),
		atIns("clone's B", procMain, cloneV, setB(varV)),
		atIns("send's A", procMain, sendS, setA(varT)),
		atIns("send's E", procMain, sendS, setE(pushNum(1), api.Push{Op: api.PushAdd})),
		atIns("give's A", procMain, giveT, setA(varS)),
		atIns("give's B", procMain, giveT, setB(varX)),
		atIns("spawn's A", procMain, spawnF, setA(procMain)),
		atIns("spawn's first Arg", procMain, spawnF, setArg(0, api.Arg{V: varX})),
		atIns("spawn's second Arg", procMain, spawnF, setArg(1, api.Arg{V: varU})),
		atIns("spawn's third Arg", procMain, spawnF, setArg(2, api.Arg{V: varT, E: []api.Push{pushNum(1)}})),
		atIns("spawn's Args", procMain, spawnF, func(ins *api.Ins) { ins.Args = append(ins.Args, api.Arg{}) }),
		atIns("take's A", procMain, takeY, setA(varS)),
		atIns("take's B", procMain, takeY, setB(varU)),
		atIns("take's To", procMain, takeY, setTo(insOfMain+api.MaxIns)),
		atIns("emit's E", procMain, emitY, setE(api.Push{Op: 9})),
		atIns("a let's block", procMain, letK, setBlock(7+api.MaxIns)),
		atIns("a jump's To", procMain, jumpY, setTo(-1)),
		atIns("an Op", procMain, emitElse, setOp(0)),
		atIns("a close's A", procMain, closeV, setA(varR)),
		atIns("a take's Loop", procMain, takeZ, setLoop(-1)),
		atIns("a drain's A", procMain, drainZ, setA(varS)),
		atIns("an over's A", procMain, overZ, setA(varK)),
		atIns("another Op", procMain, jumpZ, setOp(18)),
		atIns("turns' A", procMain, turnsX, setA(varIn)),
		atIns("turns' E", procMain, turnsX, setE()),
		atIns("count's A", procMain, countX, setA(varU)),
		atIns("count's To", procMain, countX, setTo(-1)),
		atIns("if's E", procMain, ifX, setE(api.Push{Op: api.PushNeg})),
		atIns("if's To", procMain, ifX, setTo(-1)),
		atIns("abandon's A", procMain, abandonR, setA(varV)),
		atIns("the last emit's E", procMain, emitX, setE(pushVar(-1))),
		atIns("an over's A at the end", procMain, overIn, setA(varX)),
		atIns("the exit's block", procMain, exitMain, setBlock(-1)),
	}
}

func spoilsOfLast() []spoil {
	return []spoil{
		atIns("the last one's turns", procLast, 0, setA(1)),
		atIns("the last one's spawn", procLast, 4, setA(procLast)),
		atIns("the last one's close", procLast, 5, setA(2)),
		atIns("the last one's exit", procLast, 8, setOp(-1)),
	}
}

// P6.2: each fault alone, with its At.
func TestEachFault(t *testing.T) {
	for _, s := range spoils() {
		c := twin(lowered(t, long))
		s.do(&c)
		if got := Check(c); got != fault(s.code, s.at) {
			t.Errorf("%s: %v, want %v", s.what, got, fault(s.code, s.at))
		}
		if got := slowCheck(c); got != fault(s.code, s.at) {
			t.Errorf("%s: the second way: %v, want %v", s.what, got, fault(s.code, s.at))
		}
	}
}

// P6.2: of two faults the one is told that the chapter names first.
func TestPairsOfFaults(t *testing.T) {
	all := spoils()
	base := lowered(t, long)
	for i, first := range all {
		for _, second := range all[i+1:] {
			c := twin(base)
			// What is first comes over the second one, if they are about one thing.
			second.do(&c)
			first.do(&c)
			if got := Check(c); got != fault(first.code, first.at) {
				t.Errorf("%s (%d), and %s (%d): %v, want %v", first.what, first.at, second.what, second.at, got, fault(first.code, first.at))
			}
		}
	}
}
