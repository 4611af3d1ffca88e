package bound

import (
	"slices"

	"pipewright/api"
)

// run is code as chapter 17 runs it: each task and each channel is seen as that
// of the tree that it is.
type run struct {
	c      api.Code
	g      api.Tree
	ends   []runEnd
	chans  []runChan
	tasks  []runTask
	things []int // for each channel of the tree how many things went through it
	steps  int
	wrong  int // how often something was used wrongly
}

// dropped and lying are homes that are no tasks.
const (
	lying   = -1
	dropped = -2
)

type runEnd struct {
	of   int
	send bool
	home int
}

type runItem struct {
	n   int64
	end int // -1: it is a number
}

type runChan struct {
	site, slots, senders int
	gone                 bool
	items                []runItem
}

type runTask struct {
	node, at int
	over     bool
	nums     []int64
	ends     []int
}

func newRun(c api.Code, g api.Tree, in []int64) *run {
	r := &run{c: c, g: g, things: make([]int, len(g.Sites))}
	send, recv := r.make(0, 0, 0)
	for _, n := range in {
		r.put(send, runItem{n, -1})
	}
	r.drop(send)
	r.begin(0)
	r.tasks[0].ends[0] = recv
	return r
}

func (r *run) make(site, slots, task int) (send, recv int) {
	r.chans = append(r.chans, runChan{site: site, slots: slots, senders: 1})
	of := len(r.chans) - 1
	r.ends = append(r.ends, runEnd{of, true, task}, runEnd{of, false, task})
	return len(r.ends) - 2, len(r.ends) - 1
}

func (r *run) begin(node int) {
	vars := len(r.c.Procs[r.g.Tasks[node].Stage].Vars)
	k := runTask{node: node, nums: make([]int64, vars), ends: slices.Repeat([]int{-1}, vars)}
	r.tasks = append(r.tasks, k)
}

func (r *run) drop(e int) {
	end := &r.ends[e]
	if end.home == dropped {
		return
	}
	end.home = dropped
	ch := &r.chans[end.of]
	if end.send {
		ch.senders--
		return
	}
	items := ch.items
	ch.gone, ch.items = true, nil
	for _, x := range items {
		if x.end >= 0 {
			r.drop(x.end)
		}
	}
}

func (r *run) put(e int, x runItem) {
	ch := &r.chans[r.ends[e].of]
	r.things[ch.site]++
	if x.end >= 0 {
		r.ends[x.end].home = lying
	}
	if ch.gone {
		if x.end >= 0 {
			r.drop(x.end)
		}
		return
	}
	ch.items = append(ch.items, x)
}

func (r *run) take(e, task int) (runItem, bool) {
	ch := &r.chans[r.ends[e].of]
	if len(ch.items) == 0 {
		return runItem{}, false
	}
	x := ch.items[0]
	ch.items = ch.items[1:]
	if x.end >= 0 && r.ends[x.end].home != dropped {
		r.ends[x.end].home = task
	}
	return x, true
}

// mine asks whether a task may use what is in a variable.
func (r *run) mine(k, v int) bool {
	e := r.tasks[k].ends[v]
	return e >= 0 && r.ends[e].home == k
}

func (r *run) used(k int, vars ...int) bool {
	for _, v := range vars {
		if !r.mine(k, v) {
			r.wrong++
			return false
		}
	}
	return true
}

// waits asks whether one has to wait for the end in a variable.
func (r *run) waits(k, v int) bool {
	end := r.ends[r.tasks[k].ends[v]]
	ch := r.chans[end.of]
	if end.send {
		return !ch.gone && ch.slots > 0 && len(ch.items) >= ch.slots
	}
	return len(ch.items) == 0 && ch.senders > 0
}

func (r *run) next(k int) api.Ins {
	return r.c.Procs[r.g.Tasks[r.tasks[k].node].Stage].Ins[r.tasks[k].at]
}

func (r *run) ready(k int) bool {
	if r.tasks[k].over {
		return false
	}
	switch ins := r.next(k); ins.Op {
	case api.InSend, api.InDrain:
		return !r.mine(k, ins.A) || !r.waits(k, ins.A)
	case api.InGive:
		return !r.mine(k, ins.A) || !r.mine(k, ins.B) || !r.waits(k, ins.A)
	case api.InTake:
		return !r.mine(k, ins.B) || !r.waits(k, ins.B)
	}
	return true
}

// readyTasks are those that may go on, rising.
func (r *run) readyTasks() []int {
	var all []int
	for k := range r.tasks {
		if r.ready(k) {
			all = append(all, k)
		}
	}
	return all
}

func (r *run) over() bool {
	return !slices.ContainsFunc(r.tasks, func(k runTask) bool { return !k.over })
}

// step does the next instruction of a task that is ready.
func (r *run) step(k int) {
	ins, at, k1 := r.next(k), r.tasks[k].at, &r.tasks[k]
	r.steps++
	k1.at++
	switch ins.Op {
	case api.InLet:
		k1.nums[ins.A] = r.reckon(k, ins.E)
	case api.InTurns:
		k1.nums[ins.A] = max(0, min(api.MaxTurns, r.reckon(k, ins.E)))
	case api.InChan:
		site := slices.IndexFunc(r.g.Sites, func(s api.Site) bool { return s.Task == k1.node && s.At == at })
		k1.ends[ins.A], k1.ends[ins.B] = r.make(site, ins.N, k)
	case api.InClone:
		if r.used(k, ins.B) {
			of := r.ends[k1.ends[ins.B]].of
			r.ends = append(r.ends, runEnd{of, true, k})
			r.chans[of].senders++
			k1.ends[ins.A] = len(r.ends) - 1
		}
	case api.InSend:
		if r.used(k, ins.A) {
			r.put(k1.ends[ins.A], runItem{r.reckon(k, ins.E), -1})
		}
	case api.InGive:
		if r.used(k, ins.A, ins.B) {
			r.put(k1.ends[ins.A], runItem{0, k1.ends[ins.B]})
		}
	case api.InClose, api.InAbandon:
		if r.used(k, ins.A) {
			r.drop(k1.ends[ins.A])
		}
	case api.InDrain:
		r.drain(k, ins, at)
	case api.InSpawn:
		r.spawn(k, ins, at)
	case api.InTake:
		r.takeTo(k, ins)
	case api.InCount, api.InIf, api.InJump:
		r.turn(k, ins)
	case api.InOver:
		k1.ends[ins.A] = -1
	case api.InExit:
		k1.over = true
	}
}

func (r *run) drain(k int, ins api.Ins, at int) {
	if !r.used(k, ins.A) {
		return
	}
	e := r.tasks[k].ends[ins.A]
	x, is := r.take(e, k)
	if !is {
		r.drop(e)
		return
	}
	r.tasks[k].at = at
	if x.end >= 0 {
		r.drop(x.end)
	}
}

func (r *run) takeTo(k int, ins api.Ins) {
	task := &r.tasks[k]
	if !r.used(k, ins.B) {
		task.at = ins.To
		return
	}
	x, is := r.take(task.ends[ins.B], k)
	if !is {
		task.at = ins.To
		return
	}
	task.nums[ins.A], task.ends[ins.A] = x.n, x.end
}

func (r *run) turn(k int, ins api.Ins) {
	task := &r.tasks[k]
	switch {
	case ins.Op == api.InIf && r.reckon(k, ins.E) != 0:
	case ins.Op == api.InCount && task.nums[ins.A] > 0:
		task.nums[ins.A]--
	default:
		task.at = ins.To
	}
}

func (r *run) spawn(k int, ins api.Ins, at int) {
	var moved []int
	for _, arg := range ins.Args {
		if len(arg.E) > 0 {
			continue
		}
		if !r.used(k, arg.V) || slices.Contains(moved, r.tasks[k].ends[arg.V]) {
			return
		}
		moved = append(moved, r.tasks[k].ends[arg.V])
	}
	node := r.tasks[k].node
	r.begin(slices.IndexFunc(r.g.Tasks, func(n api.Node) bool { return n.Parent == node && n.At == at }))
	child := len(r.tasks) - 1
	for n, arg := range ins.Args {
		if len(arg.E) > 0 {
			r.tasks[child].nums[n] = r.reckon(k, arg.E)
			continue
		}
		r.tasks[child].ends[n] = r.tasks[k].ends[arg.V]
		r.ends[r.tasks[k].ends[arg.V]].home = child
	}
}

func (r *run) reckon(k int, steps []api.Push) int64 {
	var stack []int64
	for _, s := range steps {
		var a, b int64
		if n := len(stack); s.Op > api.PushNeg {
			a, b, stack = stack[n-2], stack[n-1], stack[:n-2]
		} else if s.Op == api.PushNeg {
			b, stack = stack[n-1], stack[:n-1]
		}
		is := map[bool]int64{true: 1}
		switch s.Op {
		case api.PushNum:
			a = s.N
		case api.PushVar:
			a = r.tasks[k].nums[s.N]
		case api.PushNeg, api.PushSub:
			a -= b
		case api.PushAdd:
			a += b
		case api.PushMul:
			a *= b
		case api.PushLess:
			a = is[a < b]
		case api.PushEq:
			a = is[a == b]
		}
		stack = append(stack, a)
	}
	return stack[0]
}
