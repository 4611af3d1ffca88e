package order

import (
	"fmt"
	"reflect"
	"testing"

	"pipewright/api"
	"pipewright/tree"
)

// wantFault asks all for that fault, and for nothing beside it.
func wantFault(t *testing.T, what string, c api.Code, code, at int) {
	t.Helper()
	want := fault(code, at)
	if l, g, f := Waits(c); f != want || len(l) != 0 || !reflect.DeepEqual(g, api.Tree{}) {
		t.Errorf("Waits of %s: %s %s %v, want %v", what, shown(l), shown(g), f, want)
	}
	if v, f := Judge(c); f != want || !reflect.DeepEqual(v, api.Verdict{}) {
		t.Errorf("Judge of %s: %s %v, want %v", what, shown(v), f, want)
	}
	if is, f := Narrow(c); f != want || is {
		t.Errorf("Narrow of %s: %v %v, want %v", what, is, f, want)
	}
}

// wide has each kind of instruction, and stages around main.
const wide = `
stage f(a int, b recv int, c send recv int) {
	emit a + 1;
	drain b;
	if a { close c; } else { let d = a; close c; }
}
stage main(in recv int) {
	let x = 1 + 2;
	chan s r int 1;
	chan t u recv int 2;
	clone v s;
	send s x;
	send t in;
	spawn f(x + x, r, t);
	take y from in { emit y; } else { close v; }
	for z from u { drain z; }
	repeat x { close s; }
	abandon r;
}
stage last(w send int) { close w; }`

// spoil makes one thing of wide wrong.
type spoil struct {
	what     string
	do       func(c *api.Code)
	code, at int
}

// spoilsOfFrames are those of all but the instructions.
func spoilsOfFrames() []spoil {
	var all []spoil
	for k := range 3 {
		lay := func(what string, code int, do func(p *api.Proc)) {
			all = append(all, spoil{fmt.Sprint(what, " of ", k), func(c *api.Code) { do(&c.Procs[k]) }, code, 10000*k - 1})
		}
		lay("a type", api.ErrType, func(p *api.Proc) { p.Vars = append(p.Vars, api.Var{T: "ssssi"}) })
		lay("no type", api.ErrType, func(p *api.Proc) { p.Vars = append(p.Vars, api.Var{}) })
		lay("Params below", api.ErrCount, func(p *api.Proc) { p.Params = -1 })
		lay("Params above", api.ErrCount, func(p *api.Proc) { p.Params = len(p.Vars) + 1 })
		lay("no instructions", api.ErrNone, func(p *api.Proc) { p.Ins = nil })
		lay("instructions", api.ErrMany, func(p *api.Proc) { p.Ins = append(p.Ins, make([]api.Ins, api.MaxIns)...) })
		lay("blocks", api.ErrMany, func(p *api.Proc) { p.Blocks = append(p.Blocks, make([]api.Block, api.MaxIns)...) })
		lay("variables", api.ErrMany, func(p *api.Proc) {
			for range 2 * api.MaxIns {
				p.Vars = append(p.Vars, api.Var{T: "i"})
			}
		})
		lay("a block's Kind", api.ErrForm, func(p *api.Proc) { p.Blocks[0].Kind = 0 })
	}
	return all
}

// spoilsOfIns are those of the instructions, and behind the last one.
func spoilsOfIns(c api.Code) []spoil {
	var all []spoil
	for k, p := range c.Procs {
		for i := range p.Ins {
			lay := func(what string, ins api.Ins) {
				what = fmt.Sprint(what, " in the stead of ", words[p.Ins[i].Op], ", ", i, " of ", k)
				all = append(all, spoil{what, func(c *api.Code) { c.Procs[k].Ins[i] = ins }, api.ErrCode, 10000*k + i})
			}
			lay("none", api.Ins{})
			lay("an Op above", api.Ins{Op: 18})
			lay("a Block", api.Ins{Op: api.InExit, Block: -1})
			for _, n := range wild {
				lay("a wild send", api.Ins{Op: api.InSend, A: n, E: one()})
				lay("a wild give", api.Ins{Op: api.InGive, A: n, B: n})
				lay("a wild drain", api.Ins{Op: api.InDrain, A: n})
				lay("a wild take", api.Ins{Op: api.InTake, A: n, B: n})
				lay("a wild jump", api.Ins{Op: api.InJump, To: n})
				lay("a wild spawn", api.Ins{Op: api.InSpawn, A: n})
			}
			lay("a spawn of itself", api.Ins{Op: api.InSpawn, A: k})
		}
		all = append(all, spoil{fmt.Sprint("the end of ", k), func(c *api.Code) {
			c.Procs[k].Ins = append(c.Procs[k].Ins, api.Ins{Op: api.InEmit, E: one()})
		}, api.ErrCode, 10000*k + len(p.Ins) + 1})
	}
	return all
}

func spoils(c api.Code) []spoil {
	all := []spoil{
		{"no Procs", func(c *api.Code) { c.Procs = nil }, api.ErrNone, -1},
		{"eleven Procs", func(c *api.Code) {
			for len(c.Procs) <= api.MaxStages {
				c.Procs = append(c.Procs, c.Procs[0])
			}
		}, api.ErrMany, -1},
		{"Main of three parameters", func(c *api.Code) { c.Main = 0 }, api.ErrMain, -1},
		{"Main of type si", func(c *api.Code) { c.Main = 2 }, api.ErrMain, -1},
	}
	for _, n := range append(wild, 3) {
		all = append(all, spoil{"a wild Main", func(c *api.Code) { c.Main = n }, api.ErrMain, -1})
	}
	return append(append(all, spoilsOfFrames()...), spoilsOfIns(c)...)
}

// P11: tree.Grow's faults, of all three.
func TestFaults(t *testing.T) {
	base := lowered(t, wide)
	judged(t, base)
	seen := map[int]int{}
	for _, s := range spoils(base) {
		c := changed(base, s.do)
		if _, f := tree.Grow(c); f != fault(s.code, s.at) {
			t.Fatalf("%s: tree.Grow tells %v, want %v", s.what, f, fault(s.code, s.at))
		}
		wantFault(t, s.what, c, s.code, s.at)
		seen[s.code]++
	}
	for _, code := range []int{api.ErrNone, api.ErrMany, api.ErrType, api.ErrCount, api.ErrForm, api.ErrCode, api.ErrMain} {
		if seen[code] == 0 {
			t.Errorf("no fault %d", code)
		}
	}
	wantFault(t, "nothing", api.Code{}, api.ErrNone, -1)
	wantFault(t, "an empty list", api.Code{Procs: []api.Proc{}, Main: 5}, api.ErrNone, -1)
	wantFault(t, "empty Procs", api.Code{Procs: make([]api.Proc, 3)}, api.ErrNone, -1)
}

// flat has a stage main that spawns so many tasks and makes so many channels.
func flat(tasks, sites int) api.Code {
	return code(proc("", 0, ""), proc("ri si ri", 1, rep("spawn 0;", tasks)+rep("chan 1 2;", sites)))
}

// P11: more tasks, or channels, than there may be; and as many as there may be.
func TestMany(t *testing.T) {
	for _, tasks := range []int{0, 1, 28, 29, 30, 31, 60, 500} {
		for _, sites := range []int{0, 1, 28, 29, 30, 31, 32, 33, 60, 500} {
			c := flat(tasks, sites)
			if tasks > 29 || sites > 29 {
				wantFault(t, fmt.Sprint(tasks, " spawns and ", sites, " chans"), c, api.ErrMany, -1)
				continue
			}
			wantWaits(t, c, "")
			wantRanks(t, c, make([]int, 2*(sites+1))...)
			wantNarrow(t, c, sites < 2) // else what is bound is bound anew
		}
	}
	// Stage upon stage there are more tasks than could ever be gone through.
	c := api.Code{Main: 9}
	for k := range 10 {
		said := ""
		if k > 0 {
			said = rep(fmt.Sprintf("spawn %d e0;", k-1), 500)
		}
		c.Procs = append(c.Procs, proc("i", 1, said))
	}
	c.Procs[9] = proc("ri", 1, rep("spawn 8 e0;", 500))
	inTime(t, "a crowd", func() { wantFault(t, "a crowd", c, api.ErrMany, -1) })
}

// P11: a fault is told ahead of what else is wrong.
func TestFaultsFirst(t *testing.T) {
	for _, said := range []string{"over 0", "chan 1 2; send 1", "drain 0; drain 0; chan 1 2; drain 2"} {
		c := code(proc("ri si ri", 1, said+";"+rep("chan 1 2;", 30)))
		wantFault(t, said, c, api.ErrMany, -1)
		c = code(proc("ri si ri", 1, said))
		c.Main = 1
		wantFault(t, said, c, api.ErrMain, -1)
		wantNarrow(t, code(c.Procs...), false)
		wantFine(t, code(c.Procs...), false)
	}
}
