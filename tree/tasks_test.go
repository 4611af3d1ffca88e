package tree

import (
	"fmt"
	"strings"
	"testing"

	"pipewright/api"
)

// The chapter's example, whole.
func TestTheChaptersExample(t *testing.T) {
	c := lowered(t, "stage f(s send int) { close s; } stage main(in recv int) { chan a b int 1; spawn f(a); drain b; drain in; }")
	want := api.Tree{
		Tasks: []api.Node{{Stage: 1, Parent: -1, At: 0}, {Stage: 0, Parent: 0, At: 1}},
		Sites: []api.Site{{Task: -1, At: 0, Slots: 0, T: "i"}, {Task: 0, At: 0, Slots: 1, T: "i"}},
		May:   [][][]int{{{0}, {1}, {1}}, {{1}}},
	}
	if got := grown(t, c); fmt.Sprint(got) != fmt.Sprint(want) {
		t.Errorf("%v, want %v", got, want)
	}
}

// P9: Main's task alone, whichever Proc is Main.
func TestTaskOfMain(t *testing.T) {
	c := code(proc("ri", 1, ""))
	wantTasks(t, c, "0<-1@0")
	for n := 1; n <= api.MaxStages; n++ {
		for main := range n {
			c := api.Code{Main: main}
			for range n {
				c.Procs = append(c.Procs, proc("ri", 1, "drain 0"))
			}
			wantTasks(t, c, fmt.Sprintf("%d<-1@0", main))
			wantSites(t, c, "-1@0:0i")
			wantMay(t, c, "0")
		}
	}
}

// P9: a task for each InSpawn, in order: its stage, its Parent, its At.
func TestTasksOfOneTask(t *testing.T) {
	a, b := proc("", 0, ""), proc("", 0, "")
	wantTasks(t, code(a, b, proc("ri", 1, "spawn 0")), "2<-1@0 0<0@0")
	wantTasks(t, code(a, b, proc("ri", 1, "spawn 1")), "2<-1@0 1<0@0")
	wantTasks(t, code(a, b, proc("ri", 1, "spawn 0; spawn 1")), "2<-1@0 0<0@0 1<0@1")
	wantTasks(t, code(a, b, proc("ri", 1, "spawn 1; spawn 0")), "2<-1@0 1<0@0 0<0@1")
	wantTasks(t, code(a, b, proc("ri", 1, "drain 0; spawn 1; emit; spawn 1; jump :0; spawn 0; emit; emit; spawn 1")),
		"2<-1@0 1<0@1 1<0@3 0<0@5 1<0@8")
	for n := range 30 {
		want := "1<-1@0"
		for i := range n {
			want += fmt.Sprintf(" 0<0@%d", 2*i+1)
		}
		wantTasks(t, code(a, proc("ri", 1, rep("emit; spawn 0;", n))), want)
	}
	// The first and the last one of as many instructions as there may be.
	wantTasks(t, code(a, proc("ri", 1, "spawn 0;"+rep("emit;", api.MaxIns-3)+"spawn 0")), "1<-1@0 0<0@0 0<0@1998")
}

// P9: task by task, in their order, each one more behind all.
func TestTasksBehindAll(t *testing.T) {
	a := proc("", 0, "")
	b := proc("", 0, "emit; spawn 0; spawn 0")
	c := proc("", 0, "spawn 1; emit; spawn 0")
	wantTasks(t, code(a, b, proc("ri", 1, "spawn 1")), "2<-1@0 1<0@0 0<1@1 0<1@2")
	wantTasks(t, code(a, b, proc("ri", 1, "spawn 1; spawn 0")), "2<-1@0 1<0@0 0<0@1 0<1@1 0<1@2")
	wantTasks(t, code(a, b, proc("ri", 1, "spawn 0; spawn 1")), "2<-1@0 0<0@0 1<0@1 0<2@1 0<2@2")
	wantTasks(t, code(a, b, proc("ri", 1, "spawn 1; emit; spawn 1")), "2<-1@0 1<0@0 1<0@2 0<1@1 0<1@2 0<2@1 0<2@2")
	wantTasks(t, code(a, b, c, proc("ri", 1, "spawn 2; spawn 1; spawn 2")),
		"3<-1@0 2<0@0 1<0@1 2<0@2 1<1@0 0<1@2 0<2@1 0<2@2 1<3@0 0<3@2 0<4@1 0<4@2 0<8@1 0<8@2")
	// Main ahead of others, which are in no task.
	d := code(a, b, proc("ri", 1, "spawn 1; spawn 0"), proc("ri", 1, "spawn 2 0; spawn 1"))
	d.Main = 2
	wantTasks(t, d, "2<-1@0 1<0@0 0<0@1 0<1@1 0<1@2")
	// A row of ten.
	row := api.Code{Main: 9, Procs: []api.Proc{a}}
	want := []string{"9<-1@0"}
	for k := 1; k < 9; k++ {
		row.Procs = append(row.Procs, proc("", 0, rep("emit;", k)+fmt.Sprintf("spawn %d", k-1)))
	}
	row.Procs = append(row.Procs, proc("ri", 1, "spawn 8"))
	for k := 8; k >= 0; k-- {
		want = append(want, fmt.Sprintf("%d<%d@%d", k, 8-k, (k+1)%9))
	}
	wantTasks(t, row, strings.Join(want, " "))
}

// P9: instructions that no way comes to count.
func TestTasksWhereNoWayComes(t *testing.T) {
	a, b := proc("", 0, ""), proc("", 0, "exit; spawn 0; jump :0; spawn 0")
	wantTasks(t, code(a, b, proc("ri", 1, "exit; spawn 1; jump :0; spawn 0; exit")),
		"2<-1@0 1<0@1 0<0@3 0<1@1 0<1@3")
	wantTasks(t, code(a, b, proc("ri", 1, "jump :0; spawn 0")), "2<-1@0 0<0@1")
}

// P9: a spawn that stands in blocks is one task, however often it is done.
func TestTasksOfPrograms(t *testing.T) {
	c := lowered(t, `stage a() { }
stage b(n int) { repeat n { spawn a(); } }
stage main(in recv int) {
	for x from in { spawn b(x); if x { spawn a(); } else { spawn a(); } }
	repeat 6 { repeat 6 { spawn b(1); } }
	drain in;
}`)
	wantTasks(t, c, "2<-1@0 1<0@1 0<0@3 0<0@5 1<0@11 0<1@2 0<4@2")
}

// P9: what comes in first, then a channel for each InChan: its task, its
// instruction, its N and T.
func TestSitesOfOneTask(t *testing.T) {
	wantSites(t, code(proc("ri", 1, "")), "-1@0:0i")
	wantSites(t, code(proc("ri si ri", 1, "chan 1 2")), "-1@0:0i 0@0:1i")
	wantSites(t, code(proc("ri si ri", 1, "emit; chan 1 2 x3; emit; emit; chan 1 2 x5; chan 1 2 x4; chan 1 2 x2")), "-1@0:0i 0@1:3i 0@4:5i 0@5:4i 0@6:2i")
	wantSites(t, code(proc("ri si ri", 1, "exit; chan 1 2; jump :0; chan 1 2 x2")), "-1@0:0i 0@1:1i 0@3:2i")
	for _, of := range allTypes {
		if len(of) > 3 {
			continue
		}
		for n := 1; n <= api.MaxSlots; n++ {
			c := code(proc(fmt.Sprintf("ri s%s r%s si ri", of, of), 1, fmt.Sprintf("chan 3 4; emit; chan 1 2 x%d; chan 3 4", n)))
			wantSites(t, c, fmt.Sprintf("-1@0:0i 0@0:1i 0@2:%d%s 0@3:1i", n, of))
			wantMay(t, c, "0 2 2 1,3 1,3")
		}
	}
	wantSites(t, code(proc("ri si ri", 1, "chan 1 2;"+rep("emit;", api.MaxIns-3)+"chan 1 2")), "-1@0:0i 0@0:1i 0@1998:1i")
}

// P9: task by task, the same instruction in several tasks.
func TestSitesOfTasks(t *testing.T) {
	a := proc("ssi rsi", 0, "emit; chan 0 1 x2")
	b := proc("sri rri", 0, "spawn 0; chan 0 1 x3; spawn 0; chan 0 1 x4")
	wantSites(t, code(a, proc("ri", 1, "spawn 0; spawn 0; spawn 0")), "-1@0:0i 1@1:2si 2@1:2si 3@1:2si")
	wantSites(t, code(a, b, proc("ri", 1, "spawn 1")), "-1@0:0i 1@1:3ri 1@3:4ri 2@1:2si 3@1:2si")
	wantSites(t, code(a, b, proc("ri si ri", 1, "spawn 1; spawn 0; chan 1 2; spawn 1; chan 1 2 x5")),
		"-1@0:0i 0@2:1i 0@4:5i 1@1:3ri 1@3:4ri 2@1:2si 3@1:3ri 3@3:4ri 4@1:2si 5@1:2si 6@1:2si 7@1:2si")
	// Those of what is in no task are not there.
	c := code(a, proc("ri", 1, "spawn 0"), proc("ri si ri", 1, "chan 1 2"))
	c.Main = 1
	wantSites(t, c, "-1@0:0i 1@1:2si")
}

// P9: what an instruction has beside its Op, N, T, A, B, Args and V is no
// matter, nor what others have.
func TestTreeHangsOnLittle(t *testing.T) {
	base := lowered(t, wide)
	want := shown(grown(t, base))
	for _, n := range wild {
		c := twin(base)
		for k := range c.Procs {
			p := &c.Procs[k]
			p.Name = fmt.Sprint("other", n)
			for v := range p.Vars {
				p.Vars[v].Name = fmt.Sprint(n)
			}
			for i := range p.Ins {
				unfold(&p.Ins[i], n)
			}
		}
		if got := shown(grown(t, c)); got != want {
			t.Errorf("with %d beside: %s, want %s", n, got, want)
		}
	}
}

// unfold lays a number into all that an instruction does not have.
func unfold(ins *api.Ins, n int) {
	ins.At = n
	ins.Block, ins.Loop = 0, 0
	switch ins.Op {
	case api.InChan:
		ins.E, ins.To = make([]api.Push, 2), n
	case api.InClone, api.InGive:
		ins.N, ins.To, ins.T = n, n, "?"
	case api.InTake:
		ins.N, ins.T = n, "?"
	case api.InSpawn:
		ins.B, ins.N, ins.To, ins.T = n, n, n, "?"
		for k := range ins.Args {
			if len(ins.Args[k].E) > 0 {
				ins.Args[k].V = n
			}
		}
	case api.InEmit, api.InIf, api.InJump, api.InExit:
		ins.A, ins.B, ins.N = n, n, n
	default:
		ins.B, ins.N = n, n
	}
	if ins.Op != api.InSpawn {
		ins.Args = []api.Arg{{V: n}, {V: 0}}
	}
}
