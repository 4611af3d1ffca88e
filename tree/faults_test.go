package tree

import (
	"fmt"
	"testing"

	"pipewright/api"
	"pipewright/lower"
)

// wide has each kind of instruction, and stages around main.
const wide = `
stage f(a int, b recv int, c send recv int) {
	emit a + 1;
	drain b;
	if a { close c; } else { let d = a; close c; }
}
stage main(in recv int) {
	let x = 1 + 2;
	chan s r int 1;
	chan t u recv int 2;
	clone v s;
	send s x;
	send t in;
	spawn f(x + x, r, t);
	take y from in { emit y; } else { close v; }
	for z from u { drain z; }
	repeat x { close s; }
	abandon r;
}
stage last(w send int) { close w; }`

// spoil makes one thing of wide wrong.
type spoil struct {
	what     string
	do       func(c *api.Code)
	code, at int
}

func ofProc(what string, k, code int, do func(p *api.Proc)) spoil {
	return spoil{what, func(c *api.Code) { do(&c.Procs[k]) }, code, 10000*k - 1}
}

// spoilsOfFrames are those of all but the instructions.
func spoilsOfFrames() []spoil {
	var all []spoil
	for k := range 3 {
		lay := func(what string, code int, do func(p *api.Proc)) {
			all = append(all, ofProc(fmt.Sprint(what, " of ", k), k, code, do))
		}
		lay("a type", api.ErrType, func(p *api.Proc) { p.Vars = append(p.Vars, api.Var{T: "ssssi"}) })
		lay("Params below", api.ErrCount, func(p *api.Proc) { p.Params = -1 })
		lay("Params above", api.ErrCount, func(p *api.Proc) { p.Params = len(p.Vars) + 1 })
		lay("no instructions", api.ErrNone, func(p *api.Proc) { p.Ins = nil })
		lay("instructions", api.ErrMany, func(p *api.Proc) { p.Ins = append(p.Ins, make([]api.Ins, api.MaxIns)...) })
		lay("blocks", api.ErrMany, func(p *api.Proc) { p.Blocks = append(p.Blocks, make([]api.Block, api.MaxIns)...) })
		lay("variables", api.ErrMany, func(p *api.Proc) {
			for range 2 * api.MaxIns {
				p.Vars = append(p.Vars, api.Var{T: "i"})
			}
		})
		lay("a block's Kind", api.ErrForm, func(p *api.Proc) { p.Blocks[0].Kind = 0 })
		lay("a block's N", api.ErrForm, func(p *api.Proc) { p.Blocks[0].N = 7 })
		lay("a block more", api.ErrForm, func(p *api.Proc) { p.Blocks = append(p.Blocks, api.Block{Kind: api.BlockBody}) })
	}
	return all
}

// spoilsOfIns are those of the instructions: whatever is laid in the stead of
// one, or behind the last one.
func spoilsOfIns(c api.Code) []spoil {
	var all []spoil
	for k, p := range c.Procs {
		for i := range p.Ins {
			lay := func(what string, do func(ins *api.Ins)) {
				what = fmt.Sprint(what, " of ", words[p.Ins[i].Op], ", ", i, " of ", k)
				all = append(all, spoil{what, func(c *api.Code) { do(&c.Procs[k].Ins[i]) }, api.ErrCode, 10000*k + i})
			}
			lay("an Op below", func(ins *api.Ins) { ins.Op = 0 })
			lay("an Op above", func(ins *api.Ins) { ins.Op = 18 })
			lay("a Block", func(ins *api.Ins) { ins.Block = -1 })
			lay("a Loop", func(ins *api.Ins) { ins.Loop = 1000 })
			lay("a wild jump", func(ins *api.Ins) { ins.Op, ins.To = api.InJump, -1 })
			lay("a wild take", func(ins *api.Ins) { ins.Op, ins.A, ins.B = api.InTake, -1, -1 })
			lay("a wild give", func(ins *api.Ins) { ins.Op, ins.A, ins.B = api.InGive, 1<<40, 1<<40 })
			lay("a wild clone", func(ins *api.Ins) { ins.Op, ins.A, ins.B = api.InClone, 0, 0 })
			lay("a wild chan", func(ins *api.Ins) { *ins = api.Ins{Op: api.InChan, A: 1, B: 2, N: 6, T: "i"} })
			lay("a spawn of itself", func(ins *api.Ins) { *ins = api.Ins{Op: api.InSpawn, A: k} })
			lay("a spawn of none", func(ins *api.Ins) { *ins = api.Ins{Op: api.InSpawn, A: -1} })
		}
		all = append(all, spoil{fmt.Sprint("the end of ", k), func(c *api.Code) {
			p := &c.Procs[k]
			p.Ins = append(p.Ins, api.Ins{Op: api.InEmit, E: one()})
		}, api.ErrCode, 10000*k + len(p.Ins) + 1})
	}
	return all
}

func spoils(c api.Code) []spoil {
	all := []spoil{
		{"no Procs", func(c *api.Code) { c.Procs = nil }, api.ErrNone, -1},
		{"eleven Procs", func(c *api.Code) {
			for len(c.Procs) <= api.MaxStages {
				c.Procs = append(c.Procs, c.Procs[0])
			}
		}, api.ErrMany, -1},
		{"Main of three parameters", func(c *api.Code) { c.Main = 0 }, api.ErrMain, -1},
		{"Main of type si", func(c *api.Code) { c.Main = 2 }, api.ErrMain, -1},
		{"Main above", func(c *api.Code) { c.Main = 3 }, api.ErrMain, -1},
		{"Main below", func(c *api.Code) { c.Main = -1 }, api.ErrMain, -1},
		{"Main far below", func(c *api.Code) { c.Main = wild[0] }, api.ErrMain, -1},
	}
	return append(append(all, spoilsOfFrames()...), spoilsOfIns(c)...)
}

// P9: each fault of lower.Check as lower.Check tells it, with the zero Tree.
func TestFaultsOfCheck(t *testing.T) {
	base := lowered(t, wide)
	grown(t, base)
	seen := map[int]int{}
	for _, s := range spoils(base) {
		c := changed(base, s.do)
		if f := lower.Check(c); f != fault(s.code, s.at) {
			t.Errorf("%s: lower.Check has %v, want %v", s.what, f, fault(s.code, s.at))
		}
		wantFault(t, s.what, c, s.code, s.at)
		seen[s.code]++
	}
	for _, code := range []int{api.ErrNone, api.ErrMany, api.ErrType, api.ErrCount, api.ErrForm, api.ErrCode, api.ErrMain} {
		if seen[code] == 0 {
			t.Errorf("no fault %d", code)
		}
	}
	wantFault(t, "nothing", api.Code{}, api.ErrNone, -1)
	wantFault(t, "an empty list", api.Code{Procs: []api.Proc{}, Main: 5}, api.ErrNone, -1)
	wantFault(t, "an empty Proc", api.Code{Procs: make([]api.Proc, 1)}, api.ErrNone, -1)
}

// P9: of two of Check's faults its first one; and all of them ahead of ErrMany.
func TestFaultsOfCheckFirst(t *testing.T) {
	base := lowered(t, wide)
	all := spoils(base)
	for i, one := range all {
		other := all[(7*i+3)%len(all)]
		if other.code == api.ErrNone { // there is nothing left to be changed
			continue
		}
		c := changed(changed(base, other.do), one.do)
		f := lower.Check(c)
		wantFault(t, one.what+" and "+other.what, c, f.Code, f.At)
	}
	crowd := changed(base, func(c *api.Code) {
		p := &c.Procs[c.Main]
		for range api.MaxTasks {
			p.Ins = append(p.Ins, p.Ins[3:9]...)
		}
		p.Ins = append(p.Ins, api.Ins{Op: api.InExit})
	})
	wantFault(t, "a crowd", crowd, api.ErrMany, -1)
	for _, s := range all {
		c := changed(crowd, s.do)
		if f := lower.Check(c); f.Code != 0 {
			wantFault(t, "a crowd with "+s.what, c, f.Code, f.At)
		} else {
			t.Errorf("%s: nothing wrong", s.what)
		}
	}
}

// flat has a stage main that spawns so many tasks and makes so many channels.
func flat(tasks, sites int) api.Code {
	return code(proc("", 0, ""), proc("ri si ri", 1, rep("spawn 0;", tasks)+rep("chan 1 2;", sites)))
}

// P9: ErrMany at -1: more than MaxTasks tasks, or more than MaxSites channels;
// Main's and what comes in are among them.
func TestMany(t *testing.T) {
	counts := []int{0, 1, 2, 15, 27, 28, 29, 30, 31, 32, 60, 61, 62, 63, 64, 65, 66, 100, 127, 128, 129, 255, 256, 257, 999}
	for _, tasks := range counts {
		for _, sites := range counts {
			c := flat(tasks, sites)
			if tasks > 29 || sites > 29 {
				wantFault(t, fmt.Sprint(tasks, " spawns and ", sites, " chans"), c, api.ErrMany, -1)
				continue
			}
			g := grown(t, c)
			if len(g.Tasks) != tasks+1 || len(g.Sites) != sites+1 || len(g.May) != tasks+1 {
				t.Errorf("%d tasks, %d channels and %d lists of %d spawns and %d chans", len(g.Tasks), len(g.Sites), len(g.May), tasks, sites)
			}
		}
	}
}

// shape is a code with so many tasks and channels in all.
type shape struct {
	what         string
	c            api.Code
	tasks, sites int
}

func shapes() []shape {
	leaf := proc("si ri", 0, "chan 0 1")
	row := func(n int, said string) api.Code { // of n stages, each spawning the one below it
		c := api.Code{Procs: []api.Proc{leaf}}
		for k := 1; k < n-1; k++ {
			c.Procs = append(c.Procs, proc("si ri", 0, fmt.Sprintf(said, k-1)))
		}
		c.Procs = append(c.Procs, proc("ri si ri", 1, fmt.Sprintf("spawn %d; chan 1 2", n-2)))
		c.Main = n - 1
		return c
	}
	fans := func(inner, outer int, more string) api.Code {
		return code(leaf, proc("si ri", 0, rep("spawn 0;", inner)), proc("ri si ri", 1, rep("spawn 1;", outer)+more))
	}
	return []shape{
		{"ten in a row", row(10, "spawn %d; chan 0 1"), 10, 11},
		{"ten in a row that make two each", row(10, "chan 0 1; spawn %d; chan 0 1"), 10, 19},
		{"ten in a row that make three each", row(10, "chan 0 1; chan 0 1; spawn %d; chan 0 1"), 10, 27},
		{"ten in a row that make four each", row(10, "chan 0 1; chan 0 1; spawn %d; chan 0 1; chan 0 1"), 10, 35},
		{"five that spawn twice", row(5, "spawn %d; spawn %[1]d; chan 0 1"), 16, 17},
		{"six that spawn twice", row(6, "spawn %d; spawn %[1]d"), 32, 18},
		{"28 leaves of one", fans(28, 1, ""), 30, 29},
		{"28 leaves of one, and a channel", fans(28, 1, "chan 1 2"), 30, 30},
		{"28 leaves of one, and two channels", fans(28, 1, "chan 1 2; chan 1 2"), 30, 31},
		{"29 leaves of one", fans(29, 1, ""), 31, 30},
		{"6 leaves of each of 4", fans(6, 4, ""), 29, 25},
		{"6 leaves of each of 4, and one more", fans(6, 4, "spawn 0"), 30, 26},
		{"6 leaves of each of 4, and two more", fans(6, 4, "spawn 0; spawn 0"), 31, 27},
		{"no leaves of each of 29", fans(0, 29, rep("chan 1 2;", 29)), 30, 30},
		{"no leaves of each of 29, and a task", fans(0, 29, rep("chan 1 2;", 29)+"spawn 1"), 31, 30},
		{"no leaves of each of 29, and a channel", fans(0, 29, rep("chan 1 2;", 30)), 30, 31},
	}
}

// P9: tasks and channels are counted as the tree has them, stage upon stage.
func TestManyStageUponStage(t *testing.T) {
	for _, s := range shapes() {
		if s.tasks > api.MaxTasks || s.sites > api.MaxSites {
			wantFault(t, s.what, s.c, api.ErrMany, -1)
		} else if g := grown(t, s.c); len(g.Tasks) != s.tasks || len(g.Sites) != s.sites {
			t.Errorf("%s: %d tasks and %d channels, want %d and %d", s.what, len(g.Tasks), len(g.Sites), s.tasks, s.sites)
		}
		if tasks := slowTasks(s.c); len(tasks) != s.tasks || len(slowSites(s.c, tasks)) != s.sites {
			t.Errorf("%s: the second way has %d tasks", s.what, len(tasks))
		}
	}
}

// P9: what is in no task counts for nothing.
func TestManyElsewhere(t *testing.T) {
	crowd := proc("ri si ri", 1, rep("spawn 0;", 500)+rep("chan 1 2;", 500))
	c := code(proc("", 0, ""), crowd, crowd, flat(29, 29).Procs[1], crowd, crowd)
	c.Main = 3
	g := grown(t, c)
	if len(g.Tasks) != 30 || len(g.Sites) != 30 {
		t.Errorf("%d tasks and %d channels", len(g.Tasks), len(g.Sites))
	}
	for _, c.Main = range []int{1, 2, 4, 5} {
		wantFault(t, "a crowd", c, api.ErrMany, -1)
	}
}

// P9: what no way comes to counts, too.
func TestManyWhereNoWayComes(t *testing.T) {
	for _, ahead := range []string{"exit;", "jump :0;", "exit; exit; jump :0;"} {
		for n := 28; n < 32; n++ {
			tasks := code(proc("", 0, ""), proc("ri", 1, ahead+rep("spawn 0;", n)))
			sites := code(proc("ri si ri", 1, ahead+rep("chan 1 2;", n)))
			if n > 29 {
				wantFault(t, "tasks", tasks, api.ErrMany, -1)
				wantFault(t, "channels", sites, api.ErrMany, -1)
			} else if len(grown(t, tasks).Tasks) != n+1 || len(grown(t, sites).Sites) != n+1 {
				t.Errorf("behind %s %d do not count", ahead, n)
			}
		}
	}
}

// P1: far more tasks than could be gone through, or channels, or both.
func TestFarTooMany(t *testing.T) {
	for _, times := range []int{2, 3, 4, 29, 30, 31, 100, api.MaxIns - 1} {
		for _, made := range []string{"", "chan 0 1;"} {
			if times == api.MaxIns-1 {
				made = ""
			}
			c := api.Code{Main: 9}
			for k := range 9 {
				said := ""
				if k > 0 {
					said = rep(fmt.Sprintf("spawn %d;", k-1), times)
				}
				c.Procs = append(c.Procs, proc("si ri", 0, made+said))
			}
			c.Procs = append(c.Procs, proc("ri", 1, rep("spawn 8;", times)))
			inTime(t, fmt.Sprint(times, " of each"), func() { wantFault(t, fmt.Sprint(times, " of each"), c, api.ErrMany, -1) })
		}
	}
	maker := proc("si ri", 0, rep("chan 0 1;", api.MaxIns-1))
	for _, times := range []int{1, 2, 29, api.MaxIns - 1} {
		c := code(maker, proc("ri", 1, rep("spawn 0;", times)))
		inTime(t, "makers", func() { wantFault(t, fmt.Sprint(times, " makers"), c, api.ErrMany, -1) })
	}
}
