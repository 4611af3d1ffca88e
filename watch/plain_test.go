package watch

import (
	"math/big"
	"slices"

	"pipewright/api"
)

// plain is the chapter, and those that it leans on, in plain lists.
type plain struct {
	c      api.Code
	ends   []api.End
	chans  []api.Chan
	tasks  []plainTask
	events []api.Event
	out    []int64
	ready  []int // how many tasks were ready ahead of each step
}

type plainTask struct {
	stage, at int
	over      bool
	nums      []int64
	ends      []int
}

func newPlain(c api.Code, in []int64) *plain {
	p := &plain{c: c}
	p.make(0, 0)
	for _, n := range in {
		p.put(0, api.Item{N: n, End: -1})
	}
	p.drop(0)
	p.begin(c.Main)
	p.tasks[0].ends[0] = 1
	return p
}

// exactly is a pick's place among so many, by numbers without a limit.
func exactly(pick, many int) int {
	n := big.NewInt(int64(pick))
	if pick < 0 {
		n.Add(n, new(big.Int).Lsh(big.NewInt(1), 64))
	}
	return int(n.Mod(n, big.NewInt(int64(many))).Int64())
}

// run is for code that may be run.
func (p *plain) run(picks []int, most int) api.Report {
	for step := 0; ; step++ {
		var ready []int
		over := 0
		for k := range p.tasks {
			switch {
			case p.tasks[k].over:
				over++
			case p.mayGoOn(k):
				ready = append(ready, k)
			}
		}
		r := api.Report{Events: p.events, Out: p.out, Steps: step}
		switch {
		case len(ready) == 0 && over == len(p.tasks):
			r.How = api.RunOver
			return r
		case len(ready) == 0:
			r.How = api.RunStuck
			r.Events = append(r.Events, api.Event{Kind: api.EventStuck, Task: -1, At: -1, End: -1})
			return r
		case step == most:
			r.How = api.RunCut
			return r
		}
		k := 0
		if step < len(picks) {
			k = exactly(picks[step], len(ready))
		}
		p.ready = append(p.ready, len(ready))
		p.step(ready[k])
	}
}

func (p *plain) begin(stage int) {
	vars := len(p.c.Procs[stage].Vars)
	p.tasks = append(p.tasks, plainTask{stage: stage, nums: make([]int64, vars), ends: slices.Repeat([]int{-1}, vars)})
}

func (p *plain) isEnd(e int) bool { return e >= 0 && e < len(p.ends) }

func (p *plain) usable(e int, send bool) bool {
	return p.isEnd(e) && p.ends[e].Send == send && p.ends[e].Home != api.HomeDropped
}

func (p *plain) of(e int) *api.Chan { return &p.chans[p.ends[e].Chan] }

func (p *plain) make(slots, task int) (send, recv int) {
	n, e := len(p.chans), len(p.ends)
	p.chans = append(p.chans, api.Chan{Slots: slots, Senders: 1})
	p.ends = append(p.ends, api.End{Chan: n, Send: true, Home: task}, api.End{Chan: n, Home: task})
	return e, e + 1
}

func (p *plain) clone(e, task int) int {
	p.of(e).Senders++
	p.ends = append(p.ends, api.End{Chan: p.ends[e].Chan, Send: true, Home: task})
	return len(p.ends) - 1
}

func (p *plain) waits(e int) bool {
	if p.usable(e, true) {
		c := p.of(e)
		return !c.Gone && c.Slots > 0 && len(c.Items) >= c.Slots
	}
	return p.usable(e, false) && len(p.of(e).Items) == 0 && p.of(e).Senders > 0
}

// put is of an item that a task may send. (Of an end through itself there is
// nothing to be done.)
func (p *plain) put(e int, x api.Item) {
	if x.End == e {
		return
	}
	if p.of(e).Gone {
		p.drop(x.End)
		return
	}
	if x.End >= 0 {
		p.ends[x.End].Home = api.HomeRing
	}
	p.of(e).Items = append(slices.Clone(p.of(e).Items), x)
}

func (p *plain) take(e, task int) (api.Item, bool) {
	c := p.of(e)
	if len(c.Items) == 0 {
		return api.Item{}, false
	}
	x := c.Items[0]
	c.Items = c.Items[1:]
	if x.End >= 0 && p.ends[x.End].Home != api.HomeDropped {
		p.ends[x.End].Home = task
	}
	return x, true
}

func (p *plain) drop(e int) {
	if !p.isEnd(e) {
		return
	}
	was := p.ends[e].Home != api.HomeDropped
	p.ends[e].Home = api.HomeDropped
	p.ends[e].Drops++
	if !was {
		return
	}
	c := p.of(e)
	if p.ends[e].Send {
		c.Senders--
		return
	}
	items := c.Items
	c.Gone, c.Items = true, nil
	for _, x := range items {
		p.drop(x.End)
	}
}

// use is what is wrong with an end, if a task does one of three things with it;
// 0: nothing. The row has what is told of one that was dropped, and of one that
// is not the task's.
func (p *plain) use(e, task int, row [2]int) int {
	switch {
	case !p.isEnd(e):
		return api.EventNone
	case p.ends[e].Home == api.HomeDropped:
		return row[0]
	case p.ends[e].Home != task:
		return row[1]
	}
	return 0
}

// wrong tells the first thing that is wrong with what an instruction uses: its
// kind, and the end.
func (p *plain) wrong(k int, ins api.Ins) (kind, end int) {
	through := [2]int{api.EventSent, api.EventMoved}
	drops := [2]int{api.EventTwice, api.EventOwner}
	other := [2]int{api.EventGone, api.EventMoved}
	asks := func(v int, row [2]int) {
		if kind == 0 {
			end = p.tasks[k].ends[v]
			kind = p.use(end, k, row)
		}
	}
	switch ins.Op {
	case api.InSend:
		asks(ins.A, through)
	case api.InGive:
		asks(ins.A, through)
		asks(ins.B, other)
	case api.InClose, api.InAbandon, api.InDrain:
		asks(ins.A, drops)
	case api.InClone, api.InTake:
		asks(ins.B, other)
	case api.InSpawn:
		var ahead []int
		for _, arg := range ins.Args {
			if len(arg.E) > 0 || kind != 0 {
				continue
			}
			if e := p.tasks[k].ends[arg.V]; slices.Contains(ahead, e) {
				kind, end = api.EventMoved, e
				continue
			}
			asks(arg.V, other)
			ahead = append(ahead, p.tasks[k].ends[arg.V])
		}
	}
	return kind, end
}

func (p *plain) next(k int) api.Ins { return p.c.Procs[p.tasks[k].stage].Ins[p.tasks[k].at] }

// mayGoOn is asked of a task that is not over.
func (p *plain) mayGoOn(k int) bool {
	ins := p.next(k)
	e := -1
	switch ins.Op {
	case api.InSend, api.InGive, api.InDrain:
		e = p.tasks[k].ends[ins.A]
	case api.InTake:
		e = p.tasks[k].ends[ins.B]
	}
	kind, _ := p.wrong(k, ins)
	return kind != 0 || !p.waits(e)
}

func (p *plain) step(k int) {
	ins := p.next(k)
	p.tasks[k].at++
	kind, end := p.wrong(k, ins)
	if kind == 0 {
		p.do(k, ins)
		return
	}
	p.events = append(p.events, api.Event{Kind: kind, Task: k, At: ins.At, End: end})
	if ins.Op == api.InTake {
		p.tasks[k].at = ins.To
	}
}

// do does an instruction with which nothing is wrong.
func (p *plain) do(k int, ins api.Ins) {
	nums, ends := p.tasks[k].nums, p.tasks[k].ends
	goesTo := func(is bool) {
		if is {
			p.tasks[k].at = ins.To
		}
	}
	switch ins.Op {
	case api.InLet:
		nums[ins.A] = p.reckon(k, ins.E)
	case api.InTurns:
		nums[ins.A] = p.reckon(k, ins.E)
		if nums[ins.A] < 0 {
			nums[ins.A] = 0
		} else if nums[ins.A] > 6 {
			nums[ins.A] = 6
		}
	case api.InEmit:
		p.out = append(p.out, p.reckon(k, ins.E))
	case api.InChan:
		ends[ins.A], ends[ins.B] = p.make(ins.N, k)
	case api.InClone:
		ends[ins.A] = p.clone(ends[ins.B], k)
	case api.InSend:
		p.put(ends[ins.A], api.Item{N: p.reckon(k, ins.E), End: -1})
	case api.InGive:
		p.put(ends[ins.A], api.Item{End: ends[ins.B]})
	case api.InClose, api.InAbandon:
		p.drop(ends[ins.A])
	case api.InDrain, api.InTake:
		p.receive(k, ins, goesTo)
	case api.InSpawn:
		p.spawn(k, ins)
	case api.InCount:
		goesTo(nums[ins.A] <= 0)
		if nums[ins.A] > 0 {
			nums[ins.A]--
		}
	case api.InIf:
		goesTo(p.reckon(k, ins.E) == 0)
	case api.InJump:
		goesTo(true)
	case api.InOver:
		ends[ins.A] = -1
	case api.InExit:
		p.exit(k, ins)
	}
}

func (p *plain) receive(k int, ins api.Ins, goesTo func(is bool)) {
	task := &p.tasks[k]
	name := ins.A
	if ins.Op == api.InTake {
		name = ins.B
	}
	from := task.ends[name]
	x, is := p.take(from, k)
	switch {
	case ins.Op == api.InTake && is:
		task.nums[ins.A], task.ends[ins.A] = x.N, x.End
	case ins.Op == api.InTake:
		goesTo(true)
	case is:
		task.at--
		p.drop(x.End)
	default:
		p.drop(from)
	}
}

func (p *plain) spawn(k int, ins api.Ins) {
	child := len(p.tasks)
	p.begin(ins.A)
	for n, arg := range ins.Args {
		if len(arg.E) > 0 {
			p.tasks[child].nums[n] = p.reckon(k, arg.E)
			continue
		}
		e := p.tasks[k].ends[arg.V]
		p.tasks[child].ends[n] = e
		p.ends[e].Home = child
	}
}

func (p *plain) exit(k int, ins api.Ins) {
	for e, x := range p.ends {
		if x.Home == k {
			p.events = append(p.events, api.Event{Kind: api.EventLeak, Task: k, At: ins.At, End: e})
		}
	}
	p.tasks[k].over = true
}

func (p *plain) reckon(k int, steps []api.Push) int64 {
	var stack []int64
	for _, s := range steps {
		var a, b int64
		if n := len(stack); s.Op > api.PushNeg {
			a, b, stack = stack[n-2], stack[n-1], stack[:n-2]
		} else if s.Op == api.PushNeg {
			b, stack = stack[n-1], stack[:n-1]
		}
		is := map[bool]int64{true: 1}
		switch s.Op {
		case api.PushNum:
			a = s.N
		case api.PushVar:
			a = p.tasks[k].nums[s.N]
		case api.PushNeg, api.PushSub:
			a -= b
		case api.PushAdd:
			a += b
		case api.PushMul:
			a *= b
		case api.PushLess:
			a = is[a < b]
		case api.PushEq:
			a = is[a == b]
		}
		stack = append(stack, a)
	}
	return stack[0]
}
