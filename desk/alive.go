package desk

import (
	"pipewright/api"
	"pipewright/world"
)

// alive passes over tasks that are over: none of them comes back, and there may
// be far more of them than others. The place 0 stands ahead of all tasks, the
// place k + 1 behind the task k; next has for each place the first task behind
// it that may not be over.
type alive struct {
	*world.World
	next []int
}

func (a *alive) firstReady() (task int, is bool) {
	a.grow()
	place := 0
	for a.next[place] < a.Tasks() {
		k := a.next[place]
		switch a.Task(k).State {
		case api.TaskReady:
			return k, true
		case api.TaskWaits:
			place = k + 1
		case api.TaskOver:
			a.next[place] = a.next[k+1]
		}
	}
	return 0, false
}

// grow makes places for tasks that have begun meanwhile.
func (a *alive) grow() {
	for len(a.next) <= a.Tasks() {
		a.next = append(a.next, len(a.next))
	}
}
