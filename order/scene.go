package order

import (
	"slices"

	"pipewright/api"
	"pipewright/own"
	"pipewright/tree"
)

// scene is a tree, with what its tasks may have where they may wait.
type scene struct {
	api.Tree
	procs []api.Proc
	stops [][]stop  // for each stage that has a task
	sides [][]nodes // for each task, for each variable, where one waits for that variable
}

// stop is an instruction that may wait for the variable on. Of the greatest code
// there are so many that lists of numbers would be a burden.
type stop struct {
	at, on int
	has    []bool // for each variable: is it another one that may have an end there?
}

// post is a stop of a task.
type post struct {
	stop
	task int
}

func newScene(c api.Code) (*scene, api.Fault) {
	grown, f := tree.Grow(c)
	if f.Code != 0 {
		return nil, f
	}
	s := &scene{Tree: grown, procs: c.Procs}
	s.stops = make([][]stop, len(s.procs))
	for stage, p := range s.procs {
		if slices.ContainsFunc(s.Tasks, func(n api.Node) bool { return n.Stage == stage }) {
			s.stops[stage] = stopsOf(p)
		}
	}
	s.sides = make([][]nodes, len(s.Tasks))
	for task := range s.sides {
		s.sides[task] = s.sidesOf(task)
	}
	return s, api.Fault{}
}

// What own.States tells of variables that have an end, or may have one.
const (
	hasEnd  = 2
	mayHave = 3
)

func stopsOf(p api.Proc) []stop {
	var stops []stop
	for i, states := range own.States(p) {
		on, may := waitsFor(p.Ins[i])
		if !may {
			continue
		}
		has := make([]bool, len(states))
		for v, state := range states {
			has[v] = v != on && (state == hasEnd || state == mayHave)
		}
		stops = append(stops, stop{i, on, has})
	}
	return stops
}

// waitsFor tells which variable an instruction may wait for, if any.
func waitsFor(ins api.Ins) (on int, may bool) {
	switch ins.Op {
	case api.InSend, api.InGive, api.InDrain:
		return ins.A, true
	case api.InTake:
		return ins.B, true
	}
	return 0, false
}

func (s *scene) sidesOf(task int) []nodes {
	sides := make([]nodes, len(s.May[task]))
	for v, sites := range s.May[task] {
		for _, site := range sites {
			if s.sends(task, v) {
				sides[v] |= toSend(site)
			} else {
				sides[v] |= toReceive(site)
			}
		}
	}
	return sides
}

func (s *scene) sends(task, v int) bool {
	return s.procs[s.Tasks[task].Stage].Vars[v].T[0] == 's'
}

func (s *scene) notes() [][]api.Note {
	notes := make([][]api.Note, len(s.procs))
	for stage, p := range s.procs {
		notes[stage] = own.Notes(p)
	}
	return notes
}

// each goes through all posts in the order in which waits are told.
func (s *scene) each(do func(p post)) {
	for task, node := range s.Tasks {
		for _, st := range s.stops[node.Stage] {
			do(post{st, task})
		}
	}
}

// others tells which variables a stop has beside the one that it waits for,
// rising.
func (s stop) others() []int {
	list := make([]int, 0, len(s.has))
	for v, is := range s.has {
		if is {
			list = append(list, v)
		}
	}
	return list
}

// tos are the nodes at which a post waits.
func (s *scene) tos(p post) nodes { return s.sides[p.task][p.on] }

// froms are the nodes at which one waits for what a post holds: for the other
// side of it.
func (s *scene) froms(p post, held int) nodes { return s.sides[p.task][held].across() }
