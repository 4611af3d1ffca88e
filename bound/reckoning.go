package bound

import (
	"pipewright/api"
	"pipewright/tree"
)

// reckoning is a tree with the chapter's E and N.
type reckoning struct {
	api.Tree
	procs  []api.Proc
	inputs int
	passes [][]int // E: for each task, for each of its blocks
	things []int   // N: for each channel
}

func newReckoning(c api.Code, inputs int) (*reckoning, api.Fault) {
	if inputs < 0 {
		return nil, api.Fault{Code: api.ErrRange, At: -1}
	}
	grown, f := tree.Grow(c) // lower.Check's fault, too
	if f.Code != 0 {
		return nil, f
	}
	r := &reckoning{Tree: grown, procs: c.Procs, inputs: inputs}
	r.things = make([]int, len(r.Sites))
	for task := range r.Tasks {
		r.passes = append(r.passes, make([]int, len(r.proc(task).Blocks)))
	}
	r.settle()
	return r, api.Fault{}
}

func (r *reckoning) proc(task int) api.Proc { return r.procs[r.Tasks[task].Stage] }

// settle goes over the N's alone, as the chapter goes over E's and N's: of the
// greatest code there are so many E's that nobody could wait for that. Each E
// hangs on N's and on E's ahead of it, so that the N's tell all E's, and each
// round of what hangs on one another leads through a channel. So both come to
// the same:
//   - what hangs on no round that is above 0 does not change the last time;
//   - of each such round one at least changes the last time, or is Cap already;
//   - all that hangs on what is Cap is Cap behind the second going over (but 0
//     times of it), whichever of a round was Cap behind the first.
func (r *reckoning) settle() {
	for range 2 {
		var changed []int
		for range len(r.Sites) + 1 {
			changed = r.renew()
		}
		for _, site := range changed {
			r.things[site] = api.Cap
		}
	}
	r.pass()
}

// renew makes all N's anew, and tells which ones it changed. None ever becomes
// less, as nothing that it hangs on does, but for what was made Cap: that stays
// so, whatever is reckoned.
func (r *reckoning) renew() []int {
	r.pass()
	var changed []int
	for site, n := range r.sent() {
		if n > r.things[site] {
			changed = append(changed, site)
			r.things[site] = n
		}
	}
	return changed
}

// pass makes all E's out of the N's: a task stands behind its Parent, and a
// block behind its own.
func (r *reckoning) pass() {
	for task := range r.Tasks {
		passes := r.passes[task]
		for number, b := range r.proc(task).Blocks {
			switch b.Kind {
			case api.BlockBody:
				passes[number] = r.begun(task)
			case api.BlockFor:
				passes[number] = r.through(task, b.A)
			case api.BlockThen, api.BlockElse:
				passes[number] = passes[b.Parent]
			case api.BlockRepeat:
				passes[number] = Times(passes[b.Parent], b.N)
			}
		}
	}
}

// begun is how often a task may be begun.
func (r *reckoning) begun(task int) int {
	node := r.Tasks[task]
	if node.Parent < 0 {
		return 1
	}
	return r.passes[node.Parent][r.proc(node.Parent).Ins[node.At].Block]
}

// through is how many things may go through the channels that a variable may
// be.
func (r *reckoning) through(task, v int) int {
	sum := 0
	for _, site := range r.May[task][v] {
		sum = Add(sum, r.things[site])
	}
	return sum
}

// sent makes all N's out of the E's.
func (r *reckoning) sent() []int {
	things := make([]int, len(r.Sites))
	for task := range r.Tasks {
		for _, ins := range r.proc(task).Ins {
			if ins.Op != api.InSend && ins.Op != api.InGive {
				continue
			}
			for _, site := range r.May[task][ins.A] {
				things[site] = Add(things[site], r.passes[task][ins.Block])
			}
		}
	}
	things[0] = cut(r.inputs)
	return things
}

// stepsOf is how often an instruction of a task may be done.
func (r *reckoning) stepsOf(task int, ins api.Ins) int {
	steps := r.passes[task][ins.Block]
	if ins.Loop != 0 {
		steps = Add(steps, r.passes[task][ins.Loop])
	}
	if ins.Op == api.InDrain {
		steps = Add(steps, r.through(task, ins.A))
	}
	return steps
}
