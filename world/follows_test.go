package world

import (
	"slices"
	"testing"

	"pipewright/api"
	"pipewright/tree"
)

// branch is a world whose tasks and channels are seen as those of the tree that
// they are.
type branch struct {
	*World
	c            api.Code
	g            api.Tree
	nodes, sites []int
}

// step picks a task, and tells of what came to be whose it is.
func (b *branch) step(k int) {
	at, chans, tasks := b.At(k), len(b.Chans()), b.Tasks()
	if !b.Step(k) {
		return
	}
	node := b.nodes[k]
	if b.Tasks() > tasks {
		b.nodes = append(b.nodes, slices.IndexFunc(b.g.Tasks, func(n api.Node) bool { return n.Parent == node && n.At == at }))
	}
	if len(b.Chans()) > chans {
		b.sites = append(b.sites, slices.IndexFunc(b.g.Sites, func(s api.Site) bool { return s.Task == node && s.At == at }))
	}
}

// named asks that each variable has only what the tree names there; it tells how
// many of them have an end.
func (b *branch) named(t *testing.T) (found int) {
	t.Helper()
	for k, task := range b.tasks {
		if task.stage != b.g.Tasks[b.nodes[k]].Stage {
			t.Fatalf("the task %d is of the stage %d, the tree's %v", k, task.stage, b.g.Tasks[b.nodes[k]])
		}
		for v, x := range task.vars {
			end, ok := b.End(x.End)
			if !ok {
				continue
			}
			found++
			if may := b.g.May[b.nodes[k]][v]; !slices.Contains(may, b.sites[end.Chan]) {
				t.Fatalf("the variable %d of the task %d has an end of the channel %d, but %v", v, k, b.sites[end.Chan], may)
			}
			if of := b.c.Procs[task.stage].Vars[v].T; end.Send != (of[0] == 's') || b.g.Sites[b.sites[end.Chan]].T != of[1:] {
				t.Fatalf("the variable %d of the task %d, of type %s, has the end %v", v, k, of, end)
			}
		}
	}
	return found
}

// What follows: what the tree of the code names is all that variables can be.
func TestTreeNamesAll(t *testing.T) {
	w := newWriter(10)
	found, trees := 0, 0
	watch := func(c api.Code, steps int) {
		g, f := tree.Grow(c)
		if f.Code != 0 {
			return
		}
		trees++
		b := &branch{World: begun(t, c, w.inputs()...), c: c, g: g, nodes: l(0), sites: l(0)}
		for range steps {
			b.step(w.pickOf(b.Tasks()))
			found += b.named(t)
		}
	}
	for round := range 4000 {
		watch(w.code(4+round%3*15), 60)
	}
	for _, src := range programs {
		for range 40 {
			watch(lowered(t, src), 400)
		}
	}
	if trees < 1000 || found < 100000 {
		t.Errorf("%d trees, %d ends: too few", trees, found)
	}
}

// What follows: a pick that can't be changes nothing: of no task, of one that is
// over, of one that waits; wherever the code is.
func TestPicksThatCannotBe(t *testing.T) {
	w := newWriter(11)
	waits, over := 0, 0
	for range 600 {
		x := begun(t, w.code(30), w.inputs()...)
		for range 60 {
			x.Step(w.pickOf(x.Tasks()))
			for k := range x.Tasks() {
				switch x.Task(k).State {
				case api.TaskReady:
					continue
				case api.TaskWaits:
					waits++
				case api.TaskOver:
					over++
				}
				if w.Intn(6) == 0 {
					stays(t, x, k)
				}
			}
		}
		stays(t, x, append(noTasks, x.Tasks(), x.Tasks()+1)...)
	}
	if waits < 1000 || over < 1000 {
		t.Errorf("%d wait, %d are over: too few", waits, over)
	}
}
