package world

import (
	"fmt"
	"slices"
	"strings"
	"testing"

	"pipewright/api"
	"pipewright/ledger"
)

// plain is the chapter, and those that it leans on, in plain lists.
type plain struct {
	c      api.Code
	ends   []api.End
	chans  []api.Chan
	tasks  []plainTask
	events []api.Event
	out    []int64
	seen   map[string]int // what steps came to, and how often
}

type plainTask struct {
	stage, at int
	over      bool
	nums      []int64
	ends      []int
}

func newPlain(c api.Code, in []int64) *plain {
	p := &plain{c: c, seen: map[string]int{}}
	p.make(0, 0)
	for _, n := range in {
		p.put(0, api.Item{N: n, End: -1})
	}
	p.drop(0)
	p.begin(c.Main)
	p.tasks[0].ends[0] = 1
	return p
}

func (p *plain) begin(stage int) {
	vars := len(p.c.Procs[stage].Vars)
	p.tasks = append(p.tasks, plainTask{stage: stage, nums: make([]int64, vars), ends: slices.Repeat([]int{-1}, vars)})
}

func (p *plain) isEnd(e int) bool { return e >= 0 && e < len(p.ends) }

func (p *plain) usable(e int, send bool) bool {
	return p.isEnd(e) && p.ends[e].Send == send && p.ends[e].Home != api.HomeDropped
}

func (p *plain) of(e int) *api.Chan { return &p.chans[p.ends[e].Chan] }

func (p *plain) make(slots, task int) (send, recv int) {
	if task < 0 {
		return -1, -1
	}
	n, e := len(p.chans), len(p.ends)
	p.chans = append(p.chans, api.Chan{Slots: max(0, slots), Senders: 1})
	p.ends = append(p.ends, api.End{Chan: n, Send: true, Home: task}, api.End{Chan: n, Home: task})
	return e, e + 1
}

func (p *plain) clone(e, task int) int {
	if task < 0 || !p.usable(e, true) {
		return -1
	}
	p.of(e).Senders++
	p.ends = append(p.ends, api.End{Chan: p.ends[e].Chan, Send: true, Home: task})
	return len(p.ends) - 1
}

func (p *plain) waits(e int) bool {
	if p.usable(e, true) {
		c := p.of(e)
		return !c.Gone && c.Slots > 0 && len(c.Items) >= c.Slots
	}
	return p.usable(e, false) && len(p.of(e).Items) == 0 && p.of(e).Senders > 0
}

func (p *plain) put(e int, x api.Item) bool {
	if !p.usable(e, true) || p.waits(e) {
		return false
	}
	if x.End < 0 {
		x.End = -1
	} else if x.N = 0; !p.isEnd(x.End) || p.ends[x.End].Home < 0 || x.End == e {
		return false
	}
	if p.of(e).Gone {
		p.drop(x.End)
		return true
	}
	if x.End >= 0 {
		p.ends[x.End].Home = api.HomeRing
	}
	p.of(e).Items = append(slices.Clone(p.of(e).Items), x)
	return true
}

func (p *plain) take(e, task int) (api.Item, int) {
	if task < 0 || !p.usable(e, false) || p.waits(e) {
		return api.Item{}, -1
	}
	c := p.of(e)
	if len(c.Items) == 0 {
		return api.Item{}, 0
	}
	x := c.Items[0]
	c.Items = c.Items[1:]
	if x.End >= 0 && p.ends[x.End].Home != api.HomeDropped {
		p.ends[x.End].Home = task
	}
	return x, 1
}

func (p *plain) drop(e int) bool {
	if !p.isEnd(e) {
		return false
	}
	was := p.ends[e].Home != api.HomeDropped
	p.ends[e].Home = api.HomeDropped
	p.ends[e].Drops++
	if !was {
		return false
	}
	c := p.of(e)
	if p.ends[e].Send {
		c.Senders--
		return true
	}
	items := c.Items
	c.Gone, c.Items = true, nil
	for _, x := range items {
		p.drop(x.End)
	}
	return true
}

// use is what is wrong with an end; 0: nothing.
func (p *plain) use(e, task, what int) int {
	row := [][2]int{
		ledger.Through: {api.EventSent, api.EventMoved},
		ledger.Drops:   {api.EventTwice, api.EventOwner},
		ledger.Other:   {api.EventGone, api.EventMoved},
	}[what]
	switch {
	case !p.isEnd(e):
		return api.EventNone
	case p.ends[e].Home == api.HomeDropped:
		return row[0]
	case p.ends[e].Home != task:
		return row[1]
	}
	return 0
}

// wrong tells the first thing that is wrong with what an instruction uses: its
// kind, the end, and which of its names it is.
func (p *plain) wrong(k int, ins api.Ins) (kind, end int, which string) {
	asks := func(v, what int, name string) {
		if kind == 0 {
			end, which = p.tasks[k].ends[v], name
			kind = p.use(end, k, what)
		}
	}
	switch ins.Op {
	case api.InSend:
		asks(ins.A, ledger.Through, "A")
	case api.InGive:
		asks(ins.A, ledger.Through, "A")
		asks(ins.B, ledger.Other, "B")
	case api.InClose, api.InAbandon, api.InDrain:
		asks(ins.A, ledger.Drops, "A")
	case api.InClone, api.InTake:
		asks(ins.B, ledger.Other, "B")
	case api.InSpawn:
		var ahead []int
		for _, arg := range ins.Args {
			if len(arg.E) > 0 || kind != 0 {
				continue
			}
			if e := p.tasks[k].ends[arg.V]; slices.Contains(ahead, e) {
				kind, end, which = api.EventMoved, e, "the same"
				continue
			}
			asks(arg.V, ledger.Other, "V")
			ahead = append(ahead, p.tasks[k].ends[arg.V])
		}
	}
	return kind, end, which
}

func (p *plain) has(k int) bool { return k >= 0 && k < len(p.tasks) }

func (p *plain) next(k int) api.Ins { return p.c.Procs[p.tasks[k].stage].Ins[p.tasks[k].at] }

// waitsFor is the end that a task has to wait for, or -1.
func (p *plain) waitsFor(k int) int {
	ins := p.next(k)
	e := -1
	switch ins.Op {
	case api.InSend, api.InGive, api.InDrain:
		e = p.tasks[k].ends[ins.A]
	case api.InTake:
		e = p.tasks[k].ends[ins.B]
	}
	if kind, _, _ := p.wrong(k, ins); kind != 0 || !p.waits(e) {
		return -1
	}
	return e
}

func (p *plain) task(k int) api.Task {
	if !p.has(k) {
		return api.Task{}
	}
	x := api.Task{Stage: p.tasks[k].stage, State: api.TaskReady, Wait: -1}
	if p.tasks[k].over {
		x.State = api.TaskOver
	} else if e := p.waitsFor(k); e >= 0 {
		x.State, x.Wait = api.TaskWaits, p.ends[e].Chan
	}
	return x
}

func (p *plain) at(k int) int {
	if !p.has(k) || p.tasks[k].over {
		return -1
	}
	return p.tasks[k].at
}

func (p *plain) silent(k int) bool {
	return p.at(k) >= 0 && (p.next(k).Op == api.InJump || p.next(k).Op == api.InOver)
}

func (p *plain) step(k int) bool {
	if x := p.task(k); x.State != api.TaskReady {
		p.saw("no step", x.State)
		if x.State == api.TaskWaits {
			p.saw(words[p.next(k).Op], "waits")
		}
		return false
	}
	ins := p.next(k)
	p.tasks[k].at++
	kind, end, which := p.wrong(k, ins)
	if kind == 0 {
		p.do(k, ins)
		return true
	}
	p.saw(words[ins.Op], eventWords[kind], which)
	p.events = append(p.events, api.Event{Kind: kind, Task: k, At: ins.At, End: end})
	if ins.Op == api.InTake {
		p.tasks[k].at = ins.To
	}
	return true
}

func (p *plain) saw(what ...any) { p.seen[strings.TrimSpace(fmt.Sprintln(what...))]++ }

// do does an instruction with which nothing is wrong.
func (p *plain) do(k int, ins api.Ins) {
	nums, ends := p.tasks[k].nums, p.tasks[k].ends
	goesTo := func(is bool) {
		p.saw(words[ins.Op], "to", is)
		if is {
			p.tasks[k].at = ins.To
		}
	}
	switch ins.Op {
	case api.InLet:
		nums[ins.A] = p.reckon(k, ins.E)
	case api.InTurns:
		n := p.reckon(k, ins.E)
		nums[ins.A] = n
		if n < 0 {
			nums[ins.A] = 0
		} else if n > 6 {
			nums[ins.A] = 6
		}
		p.saw("turns", n == nums[ins.A])
	case api.InEmit:
		p.out = append(p.out, p.reckon(k, ins.E))
	case api.InChan:
		ends[ins.A], ends[ins.B] = p.make(ins.N, k)
	case api.InClone:
		ends[ins.A] = p.clone(ends[ins.B], k)
	case api.InSend:
		p.saw("send", p.put(ends[ins.A], api.Item{N: p.reckon(k, ins.E), End: -1}))
	case api.InGive:
		p.saw("give", p.put(ends[ins.A], api.Item{End: ends[ins.B]}))
	case api.InClose, api.InAbandon:
		p.saw(words[ins.Op], p.drop(ends[ins.A]))
	case api.InDrain, api.InTake:
		p.receive(k, ins, goesTo)
	case api.InSpawn:
		p.spawn(k, ins)
	case api.InCount:
		goesTo(nums[ins.A] <= 0)
		if nums[ins.A] > 0 {
			nums[ins.A]--
		}
	case api.InIf:
		goesTo(p.reckon(k, ins.E) == 0)
	case api.InJump:
		goesTo(true)
	case api.InOver:
		ends[ins.A] = -1
	case api.InExit:
		p.exit(k, ins)
	}
}

func (p *plain) receive(k int, ins api.Ins, goesTo func(is bool)) {
	task := &p.tasks[k]
	name := ins.A
	if ins.Op == api.InTake {
		name = ins.B
	}
	from := task.ends[name]
	x, how := p.take(from, k)
	p.saw(words[ins.Op], how, how == 1 && x.End >= 0)
	switch {
	case ins.Op == api.InTake && how == 1:
		task.nums[ins.A], task.ends[ins.A] = x.N, x.End
	case ins.Op == api.InTake:
		goesTo(true)
	case how == 1:
		task.at--
		p.drop(x.End)
	default:
		p.drop(from)
	}
}

func (p *plain) spawn(k int, ins api.Ins) {
	child := len(p.tasks)
	p.begin(ins.A)
	for n, arg := range ins.Args {
		if len(arg.E) > 0 {
			p.tasks[child].nums[n] = p.reckon(k, arg.E)
			p.saw("spawn of a number")
			continue
		}
		e := p.tasks[k].ends[arg.V]
		p.tasks[child].ends[n] = e
		p.ends[e].Home = child
		p.saw("spawn of an end")
	}
	p.saw("spawn", min(len(ins.Args), 3))
}

func (p *plain) exit(k int, ins api.Ins) {
	leaks := 0
	for e, x := range p.ends {
		if x.Home == k {
			leaks++
			p.events = append(p.events, api.Event{Kind: api.EventLeak, Task: k, At: ins.At, End: e})
		}
	}
	p.tasks[k].over = true
	p.saw("exit", min(leaks, 2))
}

func (p *plain) reckon(k int, steps []api.Push) int64 {
	var stack []int64
	pop := func() int64 {
		x := stack[len(stack)-1]
		stack = stack[:len(stack)-1]
		return x
	}
	for _, s := range steps {
		var x int64
		switch s.Op {
		case api.PushNum:
			x = s.N
		case api.PushVar:
			x = p.tasks[k].nums[s.N]
		case api.PushNeg:
			x = joinedExactly(api.PushSub, 0, pop())
		default:
			b := pop()
			x = joinedExactly(s.Op, pop(), b)
		}
		stack = append(stack, x)
	}
	return pop()
}

// alike: the world tells all that the lists have.
func (p *plain) alike(t *testing.T, w *World) {
	t.Helper()
	var ready []int
	for k := -1; k <= len(p.tasks); k++ {
		x := p.task(k)
		if got := w.Task(k); got != x || w.At(k) != p.at(k) || w.Silent(k) != p.silent(k) {
			t.Fatalf("the task %d: %v at %d %v, want %v at %d %v", k, got, w.At(k), w.Silent(k), x, p.at(k), p.silent(k))
		}
		if x.State == api.TaskReady {
			ready = append(ready, k)
		}
	}
	if got := w.Ready(); w.Tasks() != len(p.tasks) || !slices.Equal(got, ready) {
		t.Fatalf("of %d ready are %v, want of %d %v", w.Tasks(), got, len(p.tasks), ready)
	}
	if got := w.All(); !slices.Equal(got, p.ends) {
		t.Fatalf("ends: %s, want %s", toldEnds(got), toldEnds(p.ends))
	}
	same := func(a, b api.Chan) bool {
		return a.Slots == b.Slots && a.Senders == b.Senders && a.Gone == b.Gone && slices.Equal(a.Items, b.Items)
	}
	if got := w.Chans(); !slices.EqualFunc(got, p.chans, same) {
		t.Fatalf("channels: %s, want %s", toldChans(got), toldChans(p.chans))
	}
	if got := w.Events(); !slices.Equal(got, p.events) {
		t.Fatalf("events: %s, want %s", toldEvents(got), toldEvents(p.events))
	}
	if got := w.Out(); !slices.Equal(got, p.out) {
		t.Fatalf("emitted: %v, want %v", got, p.out)
	}
}
