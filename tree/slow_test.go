package tree

import (
	"fmt"
	"slices"
	"testing"

	"pipewright/api"
	"pipewright/lower"
)

// slowPaths are the tasks, each told by the instructions that lead to it from
// Main on, stage by stage, with nothing of an order.
func slowPaths(c api.Code, stage int, path []int) [][]int {
	all := [][]int{slices.Clone(path)}
	for i, ins := range c.Procs[stage].Ins {
		if ins.Op == api.InSpawn {
			all = append(all, slowPaths(c, ins.A, append(slices.Clone(path), i))...)
		}
	}
	return all
}

// slowTasks: the tasks of one depth stand together, those of a task that stands
// ahead ahead; so they stand by the lengths of their paths, then by what these
// are.
func slowTasks(c api.Code) []api.Node {
	paths := slowPaths(c, c.Main, nil)
	slices.SortFunc(paths, func(a, b []int) int {
		if len(a) != len(b) {
			return len(a) - len(b)
		}
		return slices.Compare(a, b)
	})
	var tasks []api.Node
	for _, path := range paths {
		node := api.Node{Stage: c.Main, Parent: -1}
		for n, at := range path {
			parent := slices.IndexFunc(paths, func(p []int) bool { return slices.Equal(p, path[:n]) })
			node = api.Node{Stage: c.Procs[node.Stage].Ins[at].A, Parent: parent, At: at}
		}
		tasks = append(tasks, node)
	}
	return tasks
}

func slowSites(c api.Code, tasks []api.Node) []api.Site {
	sites := []api.Site{{Task: -1, At: 0, Slots: 0, T: "i"}}
	for k, node := range tasks {
		for i, ins := range c.Procs[node.Stage].Ins {
			if ins.Op == api.InChan {
				sites = append(sites, api.Site{Task: k, At: i, Slots: ins.N, T: ins.T})
			}
		}
	}
	return sites
}

// known is that a variable of a task may be of a channel; or, the task being
// -1, that through the channel that is its number an end of that one may go.
type known struct{ task, number, site int }

// slowMay goes through all rules for all tasks and instructions, again and
// again.
func slowMay(c api.Code, tasks []api.Node, sites []api.Site) map[known]bool {
	all := map[known]bool{{0, 0, 0}: true}
	for before := 0; before != len(all); {
		before = len(all)
		for k, node := range tasks {
			for i, ins := range c.Procs[node.Stage].Ins {
				slowRule(c, tasks, sites, k, i, ins, all)
			}
		}
	}
	return all
}

// slowRule adds what an instruction asks for.
func slowRule(c api.Code, tasks []api.Node, sites []api.Site, k, i int, ins api.Ins, all map[known]bool) {
	hand := func(from, number, to, other int) {
		for site := range sites {
			if all[known{from, number, site}] {
				all[known{to, other, site}] = true
			}
		}
	}
	for site := range sites {
		switch ins.Op {
		case api.InChan:
			if sites[site].Task == k && sites[site].At == i {
				all[known{k, ins.A, site}] = true
				all[known{k, ins.B, site}] = true
			}
		case api.InClone:
			hand(k, ins.B, k, ins.A)
		case api.InGive:
			if all[known{k, ins.A, site}] {
				hand(k, ins.B, -1, site)
			}
		case api.InTake:
			if all[known{k, ins.B, site}] && c.Procs[tasks[k].Stage].Vars[ins.A].T != "i" {
				hand(-1, site, k, ins.A)
			}
		}
	}
	for child, node := range tasks {
		if ins.Op != api.InSpawn || node.Parent != k || node.At != i {
			continue
		}
		for n, arg := range ins.Args {
			if len(arg.E) == 0 {
				hand(k, arg.V, child, n)
			}
		}
	}
}

// slowGrow is the second way.
func slowGrow(c api.Code) (api.Tree, api.Fault) {
	if f := lower.Check(c); f != fault(0, 0) {
		return api.Tree{}, f
	}
	g := api.Tree{Tasks: slowTasks(c)}
	g.Sites = slowSites(c, g.Tasks)
	if len(g.Tasks) > 30 || len(g.Sites) > 30 {
		return api.Tree{}, fault(api.ErrMany, -1)
	}
	all := slowMay(c, g.Tasks, g.Sites)
	for k, node := range g.Tasks {
		g.May = append(g.May, nil)
		for v := range c.Procs[node.Stage].Vars {
			g.May[k] = append(g.May[k], nil)
			for site := range g.Sites {
				if all[known{k, v, site}] {
					g.May[k][v] = append(g.May[k][v], site)
				}
			}
		}
	}
	return g, fault(0, 0)
}

// wantSecond asks for what the second way tells, and gives it.
func wantSecond(t *testing.T, c api.Code) (api.Tree, api.Fault) {
	t.Helper()
	want, f := slowGrow(c)
	got, h := Grow(c)
	if h != f || fmt.Sprint(got) != fmt.Sprint(want) {
		t.Fatalf("Grow(%s): %v %s, want %v %s", said(c), h, shown(got), f, shown(want))
	}
	return want, f
}
