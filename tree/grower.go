package tree

import (
	"strings"

	"pipewright/api"
)

// spot is an instruction of a task: what makes another task, or a channel.
type spot struct{ task, at int }

// grower unrolls code that may be run.
type grower struct {
	procs   []api.Proc
	tasks   []api.Node
	sites   []api.Site
	spawned map[spot]int // tasks by what made them
	made    map[spot]int // channels by what made them
}

func newGrower(c api.Code) *grower {
	return &grower{
		procs:   c.Procs,
		tasks:   []api.Node{{Stage: c.Main, Parent: -1}},
		sites:   []api.Site{{Task: -1, T: "i"}},
		spawned: map[spot]int{},
		made:    map[spot]int{},
	}
}

func (g *grower) proc(task int) api.Proc { return g.procs[g.tasks[task].Stage] }

func (g *grower) ins(s spot) api.Ins { return g.proc(s.task).Ins[s.at] }

// growTasks gives up at the first task that is too many: stage upon stage there
// may be more of them than could ever be gone through.
func (g *grower) growTasks() bool {
	for task := 0; task < len(g.tasks); task++ {
		for i, ins := range g.proc(task).Ins {
			if ins.Op != api.InSpawn {
				continue
			}
			if len(g.tasks) == api.MaxTasks {
				return false
			}
			g.spawned[spot{task, i}] = len(g.tasks)
			g.tasks = append(g.tasks, api.Node{Stage: ins.A, Parent: task, At: i})
		}
	}
	return true
}

func (g *grower) growSites() bool {
	for task := range g.tasks {
		for i, ins := range g.proc(task).Ins {
			if ins.Op != api.InChan {
				continue
			}
			if len(g.sites) == api.MaxSites {
				return false
			}
			g.made[spot{task, i}] = len(g.sites)
			g.sites = append(g.sites, api.Site{Task: task, At: i, Slots: ins.N, T: strings.Clone(ins.T)})
		}
	}
	return true
}

func (g *grower) may() [][][]int {
	f := g.lay()
	f.run()
	may := make([][][]int, len(g.tasks))
	for task := range may {
		may[task] = make([][]int, len(g.proc(task).Vars))
		for v := range may[task] {
			may[task][v] = f.sets[f.variable(task, v)].list()
		}
	}
	return may
}

// lay makes a flow of all that the instructions ask for. The maps come in any
// order: what is laid comes to the same, whichever is laid first.
func (g *grower) lay() *flow {
	f := newFlow(g)
	for task := range g.tasks {
		f.layTask(task, g.proc(task))
	}
	for by, task := range g.spawned {
		for param, arg := range g.ins(by).Args {
			if len(arg.E) == 0 {
				f.link(f.variable(by.task, arg.V), f.variable(task, param))
			}
		}
	}
	f.join(f.variable(0, 0), only(0))
	for by, site := range g.made {
		ins := g.ins(by)
		f.join(f.variable(by.task, ins.A), only(site))
		f.join(f.variable(by.task, ins.B), only(site))
	}
	return f
}
