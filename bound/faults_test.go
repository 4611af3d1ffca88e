package bound

import (
	"fmt"
	"math"
	"testing"

	"pipewright/api"
	"pipewright/tree"
)

// wantFault asks both for that fault, and for nothing beside it.
func wantFault(t *testing.T, what string, c api.Code, inputs, code, at int) {
	t.Helper()
	want := fault(code, at)
	if n, f := Steps(c, inputs); f != want || n != 0 {
		t.Errorf("Steps of %s with %d: %d %v, want %v", what, inputs, n, f, want)
	}
	if l, f := Things(c, inputs); f != want || len(l) != 0 {
		t.Errorf("Things of %s with %d: %v %v, want %v", what, inputs, l, f, want)
	}
}

// wide has each kind of instruction and block, and stages around main.
const wide = `
stage f(a int, b recv int, c send recv int) {
	emit a + 1;
	drain b;
	if a { close c; } else { let d = a; close c; }
}
stage main(in recv int) {
	let x = 1 + 2;
	chan s r int 1;
	chan t u recv int 2;
	clone v s;
	send s x;
	send t in;
	spawn f(x + x, r, t);
	take y from in { emit y; } else { close v; }
	for z from u { drain z; }
	repeat x { close s; }
	abandon r;
}
stage last(w send int) { close w; }`

// spoil makes one thing of wide wrong.
type spoil struct {
	what     string
	do       func(c *api.Code)
	code, at int
}

// spoilsOfFrames are those of all but the instructions.
func spoilsOfFrames() []spoil {
	var all []spoil
	for k := range 3 {
		lay := func(what string, code int, do func(p *api.Proc)) {
			all = append(all, spoil{fmt.Sprint(what, " of ", k), func(c *api.Code) { do(&c.Procs[k]) }, code, 10000*k - 1})
		}
		lay("a type", api.ErrType, func(p *api.Proc) { p.Vars = append(p.Vars, api.Var{T: "ssssi"}) })
		lay("Params below", api.ErrCount, func(p *api.Proc) { p.Params = -1 })
		lay("Params above", api.ErrCount, func(p *api.Proc) { p.Params = len(p.Vars) + 1 })
		lay("no instructions", api.ErrNone, func(p *api.Proc) { p.Ins = nil })
		lay("instructions", api.ErrMany, func(p *api.Proc) { p.Ins = append(p.Ins, make([]api.Ins, api.MaxIns)...) })
		lay("blocks", api.ErrMany, func(p *api.Proc) { p.Blocks = append(p.Blocks, make([]api.Block, api.MaxIns)...) })
		lay("no body", api.ErrForm, func(p *api.Proc) { p.Blocks[0].Kind = api.BlockThen })
		lay("a block within itself", api.ErrForm, func(p *api.Proc) {
			p.Blocks = append(p.Blocks, api.Block{Kind: api.BlockThen, Parent: len(p.Blocks)})
		})
		for _, b := range wrongBlocks() {
			lay(fmt.Sprint("the block ", b), api.ErrForm, func(p *api.Proc) { p.Blocks = append(p.Blocks, b) })
		}
	}
	return all
}

// wrongBlocks may stand nowhere.
func wrongBlocks() []api.Block {
	all := []api.Block{
		{},
		{Kind: api.BlockBody},
		{Kind: api.BlockRepeat + 1},
		{Kind: api.BlockFor, A: 1000},
		{Kind: api.BlockRepeat, N: api.MaxTurns + 1},
		{Kind: api.BlockThen, N: api.MaxTurns + 1},
	}
	for _, n := range wild {
		all = append(all, api.Block{Kind: api.BlockElse, Parent: n}, api.Block{Kind: api.BlockFor, A: n}, api.Block{Kind: api.BlockRepeat, N: n})
	}
	return all
}

// spoilsOfIns are those of the instructions, and behind the last one.
func spoilsOfIns(c api.Code) []spoil {
	var all []spoil
	for k, p := range c.Procs {
		for i := range p.Ins {
			lay := func(what string, ins api.Ins) {
				what = fmt.Sprint(what, " in the stead of ", words[p.Ins[i].Op], ", ", i, " of ", k)
				all = append(all, spoil{what, func(c *api.Code) { c.Procs[k].Ins[i] = ins }, api.ErrCode, 10000*k + i})
			}
			lay("none", api.Ins{})
			lay("a Block", api.Ins{Op: api.InExit, Block: len(p.Blocks)})
			lay("a Loop", api.Ins{Op: api.InExit, Loop: len(p.Blocks)})
			for _, n := range wild {
				lay("a wild Block", api.Ins{Op: api.InExit, Block: n})
				lay("a wild Loop", api.Ins{Op: api.InExit, Loop: n})
				lay("a wild send", api.Ins{Op: api.InSend, A: n, E: one()})
				lay("a wild give", api.Ins{Op: api.InGive, A: n, B: n})
				lay("a wild drain", api.Ins{Op: api.InDrain, A: n})
				lay("a wild spawn", api.Ins{Op: api.InSpawn, A: n})
			}
			lay("a spawn of itself", api.Ins{Op: api.InSpawn, A: k})
		}
		all = append(all, spoil{fmt.Sprint("the end of ", k), func(c *api.Code) {
			c.Procs[k].Ins = append(c.Procs[k].Ins, api.Ins{Op: api.InEmit, E: one()})
		}, api.ErrCode, 10000*k + len(p.Ins) + 1})
	}
	return all
}

func spoils(c api.Code) []spoil {
	all := []spoil{
		{"no Procs", func(c *api.Code) { c.Procs = nil }, api.ErrNone, -1},
		{"eleven Procs", func(c *api.Code) {
			for len(c.Procs) <= api.MaxStages {
				c.Procs = append(c.Procs, c.Procs[0])
			}
		}, api.ErrMany, -1},
		{"Main of three parameters", func(c *api.Code) { c.Main = 0 }, api.ErrMain, -1},
		{"Main of type si", func(c *api.Code) { c.Main = 2 }, api.ErrMain, -1},
	}
	for _, n := range append(wild, 3) {
		all = append(all, spoil{"a wild Main", func(c *api.Code) { c.Main = n }, api.ErrMain, -1})
	}
	return append(append(all, spoilsOfFrames()...), spoilsOfIns(c)...)
}

// P12: lower.Check's faults, however many come in; ErrRange ahead of them.
func TestFaults(t *testing.T) {
	base := lowered(t, wide)
	wantThings(t, base, 4, 4, 1, 1)
	seen := map[int]int{}
	for k, s := range spoils(base) {
		c := changed(base, s.do)
		if _, f := tree.Grow(c); f != fault(s.code, s.at) {
			t.Fatalf("%s: tree.Grow tells %v, want %v", s.what, f, fault(s.code, s.at))
		}
		wantFault(t, s.what, c, manyInputs[k%len(manyInputs)], s.code, s.at)
		wantFault(t, s.what, c, wild[k%4], api.ErrRange, -1)
		seen[s.code]++
	}
	for _, code := range []int{api.ErrNone, api.ErrMany, api.ErrType, api.ErrCount, api.ErrForm, api.ErrCode, api.ErrMain} {
		if seen[code] == 0 {
			t.Errorf("no fault %d", code)
		}
	}
	for _, inputs := range manyInputs {
		wantFault(t, "nothing", api.Code{}, inputs, api.ErrNone, -1)
		wantFault(t, "an empty list", api.Code{Procs: []api.Proc{}, Main: 5}, inputs, api.ErrNone, -1)
		wantFault(t, "empty Procs", api.Code{Procs: make([]api.Proc, 3)}, inputs, api.ErrNone, -1)
	}
}

// P12: ErrRange at -1, of code that is right, and of such as is not.
func TestInputsBelow(t *testing.T) {
	for _, inputs := range []int{-1, -2, -1000, -api.Cap, -api.Cap - 1, math.MinInt64 + 1, math.MinInt64} {
		wantFault(t, "a program", mainOf(t, "drain in;"), inputs, api.ErrRange, -1)
		wantFault(t, "a round", mainOf(t, "chan s r int 1; send s 1; for x from r { send s x; } close s; drain r; drain in;"), inputs, api.ErrRange, -1)
		wantFault(t, "nothing", api.Code{}, inputs, api.ErrRange, -1)
		wantFault(t, "a crowd", flat(60, 60), inputs, api.ErrRange, -1)
	}
	wantThings(t, mainOf(t, "drain in;"), 0, 0)
	wantSteps(t, mainOf(t, "drain in;"), 0, 3)
}

// flat has a stage main that spawns so many tasks and makes so many channels.
func flat(tasks, sites int) api.Code {
	return code(proc("", 0, "", ""), proc("ri si ri", 1, "", rep("spawn 0;", tasks)+rep("chan 1 2;", sites)))
}

// P12: tree.Grow's fault: more tasks, or channels, than there may be; and as
// many as there may be.
func TestMany(t *testing.T) {
	for _, tasks := range []int{0, 1, 28, 29, 30, 31, 60, 500} {
		for _, sites := range []int{0, 1, 28, 29, 30, 31, 32, 60, 500} {
			c := flat(tasks, sites)
			if tasks > 29 || sites > 29 {
				wantFault(t, fmt.Sprint(tasks, " spawns and ", sites, " chans"), c, 5, api.ErrMany, -1)
				continue
			}
			wantThings(t, c, 5, append([]int{5}, make([]int, sites)...)...)
			wantSteps(t, c, 5, 2*tasks+sites+1)
		}
	}
	// Stage upon stage there are more tasks than could ever be gone through.
	c := api.Code{Main: 9}
	for k := range 10 {
		said := ""
		if k > 0 {
			said = rep(fmt.Sprintf("spawn %d e0;", k-1), 500)
		}
		c.Procs = append(c.Procs, proc("i", 1, "", said))
	}
	c.Procs[9] = proc("ri", 1, "", rep("spawn 8 e0;", 500))
	inTime(t, "a crowd", func() { wantFault(t, "a crowd", c, 5, api.ErrMany, -1) })
}

// P12: lower.Check's faults come ahead of tree.Grow's own.
func TestFaultsFirst(t *testing.T) {
	for _, s := range []spoil{
		{"turns", func(c *api.Code) { c.Procs[1].Blocks[0].N = api.MaxTurns + 1 }, api.ErrForm, 9999},
		{"a Loop", func(c *api.Code) { c.Procs[1].Ins[60].Loop = 1 }, api.ErrCode, 10060},
		{"Main", func(c *api.Code) { c.Main = 0 }, api.ErrMain, -1},
	} {
		wantFault(t, s.what, changed(flat(30, 30), s.do), 1, s.code, s.at)
		wantFault(t, s.what, changed(flat(30, 30), s.do), -1, api.ErrRange, -1)
	}
}
