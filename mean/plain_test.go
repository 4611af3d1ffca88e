package mean

import (
	"fmt"
	"iter"
	"maps"
	"math/big"
	"slices"
	"strings"
	"testing"

	"pipewright/api"
	"pipewright/ledger"
)

// plain is the chapter, and those that it leans on, in plain lists. Each task is
// a function that goes through its stage, and stops ahead of each deed.
type plain struct {
	p      api.Program
	ends   []api.End
	chans  []api.Chan
	tasks  []*plainTask
	events []api.Event
	out    []int64
	seen   map[string]int // what deeds came to, and how often
}

// known are the names of a block, with what they have. A name that went wrong is
// not there.
type known map[string]*api.Item

// deed is what a task does next: a statement, or what has no statement.
type deed struct {
	what string
	s    api.Stmt
	k    known
	at   int
}

type plainTask struct {
	p             *plain
	number, stage int
	next          deed
	over          bool
	resume        func() (deed, bool)
	stop          func()
	yield         func(deed) bool
}

type gaveUp struct{}

func newPlain(prog api.Program, in []int64) *plain {
	p := &plain{p: prog, seen: map[string]int{}}
	p.make(0, 0)
	for _, n := range in {
		p.put(0, api.Item{N: n, End: -1})
	}
	p.drop(0)
	main := slices.IndexFunc(prog.Stages, func(s api.Stage) bool { return s.Name == "main" })
	p.begin(main, []api.Item{{End: 1}})
	return p
}

// close gives all tasks up that are not over.
func (p *plain) close() {
	for _, x := range p.tasks {
		x.stop()
	}
}

func (p *plain) begin(stage int, firsts []api.Item) {
	x := &plainTask{p: p, number: len(p.tasks), stage: stage}
	p.tasks = append(p.tasks, x)
	s := p.p.Stages[stage]
	k := known{}
	for n, param := range s.Params {
		k[param.Name] = &firsts[n]
	}
	x.resume, x.stop = iter.Pull(func(yield func(deed) bool) {
		defer func() {
			if r := recover(); r != nil && r != (gaveUp{}) {
				panic(r)
			}
		}()
		x.yield = yield
		x.body(s.Body, k)
		x.pause(deed{what: "exit", at: s.At})
		x.exit(s.At)
	})
	x.goOn()
}

// goOn does what is next, and stops ahead of what comes then.
func (x *plainTask) goOn() {
	next, ok := x.resume()
	x.next, x.over = next, !ok
}

func (x *plainTask) pause(d deed) {
	if !x.yield(d) {
		panic(gaveUp{})
	}
}

func (k known) item(name string) api.Item {
	if x := k[name]; x != nil {
		return *x
	}
	return api.Item{End: -1}
}

// body knows names of its own, which nobody knows behind it.
func (x *plainTask) body(list []api.Stmt, k known) {
	k = maps.Clone(k)
	if len(list) == 0 {
		x.p.saw("empty block")
	}
	for _, s := range list {
		x.stmt(s, k)
	}
}

func (x *plainTask) bodyOf(s api.Stmt, k known, item api.Item) {
	k = maps.Clone(k)
	k[s.A] = &item
	x.body(s.Body, k)
}

// stmt goes through a statement, with all that is in it.
func (x *plainTask) stmt(s api.Stmt, k known) {
	switch s.Do {
	case api.DoTake:
		if item, ok := x.takes(s, k); ok {
			x.bodyOf(s, k, item)
		} else {
			x.body(s.Else, k)
		}
	case api.DoFor:
		for {
			item, ok := x.takes(s, k)
			if !ok {
				return
			}
			x.bodyOf(s, k, item)
		}
	case api.DoDrain:
		for x.drains(s, k) {
		}
	case api.DoRepeat:
		x.repeat(s, k)
	case api.DoIf:
		x.begins(s, k)
		is := x.p.reckon(s.E[0], k) != 0
		x.p.saw("if", is)
		if is {
			x.body(s.Body, k)
		} else {
			x.body(s.Else, k)
		}
	default:
		if x.begins(s, k) {
			x.simple(s, k)
		}
	}
}

// begins stops ahead of a statement's deed, and tells what is wrong then: is it
// to be done?
func (x *plainTask) begins(s api.Stmt, k known) bool {
	d := deed{words[s.Do], s, k, s.At}
	x.pause(d)
	kind, end, which := x.p.wrong(x, d)
	if kind == 0 {
		return true
	}
	x.p.saw(words[s.Do], eventWords[kind], which)
	x.p.events = append(x.p.events, api.Event{Kind: kind, Task: x.number, At: s.At, End: end})
	return false
}

func (x *plainTask) repeat(s api.Stmt, k known) {
	x.begins(s, k)
	n := x.p.reckon(s.E[0], k)
	x.p.saw("repeat below 0", n < 0)
	x.p.saw("repeat above", n > 6)
	for turn := int64(1); ; turn++ {
		x.pause(deed{what: "turn", at: s.At})
		if turn > n || turn > 6 {
			return
		}
		x.p.saw("turn")
		x.body(s.Body, k)
	}
}

func (x *plainTask) takes(s api.Stmt, k known) (api.Item, bool) {
	if !x.begins(s, k) {
		return api.Item{}, false
	}
	item, how := x.p.take(k.item(s.B).End, x.number)
	x.p.saw(words[s.Do], how, how == 1 && item.End >= 0)
	return item, how == 1
}

// drains does one deed of a drain: is there one more?
func (x *plainTask) drains(s api.Stmt, k known) bool {
	if !x.begins(s, k) {
		return false
	}
	from := k.item(s.A).End
	item, how := x.p.take(from, x.number)
	x.p.saw("drain", how, how == 1 && item.End >= 0)
	if how == 1 {
		x.p.drop(item.End)
	} else {
		x.p.drop(from)
	}
	return how == 1
}

// simple is for what is one deed, and with which nothing is wrong.
func (x *plainTask) simple(s api.Stmt, k known) {
	p := x.p
	end := k.item(s.A).End
	switch s.Do {
	case api.DoLet:
		k[s.A] = &api.Item{N: p.reckon(s.E[0], k), End: -1}
		p.saw("let")
	case api.DoSet:
		k[s.A].N = p.reckon(s.E[0], k)
		p.saw("set")
	case api.DoEmit:
		p.out = append(p.out, p.reckon(s.E[0], k))
	case api.DoChan:
		send, recv := p.make(s.N, x.number)
		k[s.A], k[s.B] = &api.Item{End: send}, &api.Item{End: recv}
	case api.DoClone:
		k[s.A] = &api.Item{End: p.clone(k.item(s.B).End, x.number)}
		p.saw("clone")
	case api.DoSend:
		if name, is := p.given(x, s); is {
			p.saw("send of an end", p.put(end, api.Item{End: k.item(name).End}))
		} else {
			p.saw("send of a number", p.put(end, api.Item{N: p.reckon(s.E[0], k), End: -1}))
		}
	case api.DoClose, api.DoAbandon:
		p.saw(words[s.Do], p.drop(end))
	case api.DoSpawn:
		x.spawn(s, k)
	}
}

func (x *plainTask) spawn(s api.Stmt, k known) {
	p := x.p
	stage := slices.IndexFunc(p.p.Stages, func(o api.Stage) bool { return o.Name == s.A })
	var firsts []api.Item
	for n, param := range p.p.Stages[stage].Params {
		if param.T == "i" {
			firsts = append(firsts, api.Item{N: p.reckon(s.E[n], k), End: -1})
		} else {
			e := k.item(s.E[n].Name).End
			p.ends[e].Home = len(p.tasks)
			firsts = append(firsts, api.Item{End: e})
		}
	}
	p.begin(stage, firsts)
	p.saw("spawn of", min(len(firsts), 3))
}

func (x *plainTask) exit(at int) {
	leaks := 0
	for e, end := range x.p.ends {
		if end.Home == x.number {
			leaks++
			x.p.events = append(x.p.events, api.Event{Kind: api.EventLeak, Task: x.number, At: at, End: e})
		}
	}
	x.p.saw("exit", min(leaks, 2))
}

// given is the name of the end that a send sends; false: it sends a number.
func (p *plain) given(x *plainTask, s api.Stmt) (string, bool) {
	return s.E[0].Name, typeOf(p.p.Stages[x.stage], s.A) != "si"
}

// typeOf looks for what binds a name, wherever that is.
func typeOf(s api.Stage, name string) string {
	for _, param := range s.Params {
		if param.Name == name {
			return param.T
		}
	}
	var within func(list []api.Stmt) string
	within = func(list []api.Stmt) string {
		for _, o := range list {
			switch {
			case o.A == name && o.Do == api.DoLet:
				return "i"
			case o.A == name && o.Do == api.DoChan:
				return "s" + o.T
			case o.B == name && o.Do == api.DoChan:
				return "r" + o.T
			case o.A == name && o.Do == api.DoClone:
				return typeOf(s, o.B)
			case o.A == name && (o.Do == api.DoTake || o.Do == api.DoFor):
				return typeOf(s, o.B)[1:]
			}
			if t := within(o.Body) + within(o.Else); t != "" {
				return t
			}
		}
		return ""
	}
	return within(s.Body)
}

func (p *plain) isEnd(e int) bool { return e >= 0 && e < len(p.ends) }

func (p *plain) usable(e int, send bool) bool {
	return p.isEnd(e) && p.ends[e].Send == send && p.ends[e].Home != api.HomeDropped
}

func (p *plain) of(e int) *api.Chan { return &p.chans[p.ends[e].Chan] }

func (p *plain) make(slots, task int) (send, recv int) {
	if task < 0 {
		return -1, -1
	}
	n, e := len(p.chans), len(p.ends)
	p.chans = append(p.chans, api.Chan{Slots: max(0, slots), Senders: 1})
	p.ends = append(p.ends, api.End{Chan: n, Send: true, Home: task}, api.End{Chan: n, Home: task})
	return e, e + 1
}

func (p *plain) clone(e, task int) int {
	if task < 0 || !p.usable(e, true) {
		return -1
	}
	p.of(e).Senders++
	p.ends = append(p.ends, api.End{Chan: p.ends[e].Chan, Send: true, Home: task})
	return len(p.ends) - 1
}

func (p *plain) waits(e int) bool {
	if p.usable(e, true) {
		c := p.of(e)
		return !c.Gone && c.Slots > 0 && len(c.Items) >= c.Slots
	}
	return p.usable(e, false) && len(p.of(e).Items) == 0 && p.of(e).Senders > 0
}

func (p *plain) put(e int, x api.Item) bool {
	if !p.usable(e, true) || p.waits(e) {
		return false
	}
	if x.End < 0 {
		x.End = -1
	} else if x.N = 0; !p.isEnd(x.End) || p.ends[x.End].Home < 0 || x.End == e {
		return false
	}
	if p.of(e).Gone {
		p.drop(x.End)
		return true
	}
	if x.End >= 0 {
		p.ends[x.End].Home = api.HomeRing
	}
	p.of(e).Items = append(slices.Clone(p.of(e).Items), x)
	return true
}

func (p *plain) take(e, task int) (api.Item, int) {
	if task < 0 || !p.usable(e, false) || p.waits(e) {
		return api.Item{}, -1
	}
	c := p.of(e)
	if len(c.Items) == 0 {
		return api.Item{}, 0
	}
	x := c.Items[0]
	c.Items = c.Items[1:]
	if x.End >= 0 && p.ends[x.End].Home != api.HomeDropped {
		p.ends[x.End].Home = task
	}
	return x, 1
}

func (p *plain) drop(e int) bool {
	if !p.isEnd(e) {
		return false
	}
	was := p.ends[e].Home != api.HomeDropped
	p.ends[e].Home = api.HomeDropped
	p.ends[e].Drops++
	if !was {
		return false
	}
	c := p.of(e)
	if p.ends[e].Send {
		c.Senders--
		return true
	}
	items := c.Items
	c.Gone, c.Items = true, nil
	for _, x := range items {
		p.drop(x.End)
	}
	return true
}

// use is what is wrong with an end; 0: nothing.
func (p *plain) use(e, task, what int) int {
	row := [][2]int{
		ledger.Through: {api.EventSent, api.EventMoved},
		ledger.Drops:   {api.EventTwice, api.EventOwner},
		ledger.Other:   {api.EventGone, api.EventMoved},
	}[what]
	switch {
	case !p.isEnd(e):
		return api.EventNone
	case p.ends[e].Home == api.HomeDropped:
		return row[0]
	case p.ends[e].Home != task:
		return row[1]
	}
	return 0
}

// wrong tells the first thing that is wrong with what a deed uses: its kind, the
// end, and which of its names it is.
func (p *plain) wrong(x *plainTask, d deed) (kind, end int, which string) {
	asks := func(name string, what int, is string) {
		if kind == 0 {
			end, which = d.k.item(name).End, is
			kind = p.use(end, x.number, what)
		}
	}
	switch d.what {
	case "send":
		asks(d.s.A, ledger.Through, "A")
		if name, is := p.given(x, d.s); is {
			asks(name, ledger.Other, "E")
		}
	case "close", "abandon", "drain":
		asks(d.s.A, ledger.Drops, "A")
	case "clone", "take", "for":
		asks(d.s.B, ledger.Other, "B")
	case "spawn":
		var ahead []int
		stage := slices.IndexFunc(p.p.Stages, func(o api.Stage) bool { return o.Name == d.s.A })
		for n, param := range p.p.Stages[stage].Params {
			if param.T == "i" || kind != 0 {
				continue
			}
			e := d.k.item(d.s.E[n].Name).End
			if slices.Contains(ahead, e) {
				kind, end, which = api.EventMoved, e, "the same"
				continue
			}
			asks(d.s.E[n].Name, ledger.Other, "E")
			ahead = append(ahead, e)
		}
	}
	return kind, end, which
}

// waitsFor is the end that a task has to wait for, or -1.
func (p *plain) waitsFor(x *plainTask) int {
	e := -1
	switch x.next.what {
	case "send", "drain":
		e = x.next.k.item(x.next.s.A).End
	case "take", "for":
		e = x.next.k.item(x.next.s.B).End
	}
	if kind, _, _ := p.wrong(x, x.next); kind != 0 || !p.waits(e) {
		return -1
	}
	return e
}

func (p *plain) task(k int) api.Task {
	if k < 0 || k >= len(p.tasks) {
		return api.Task{}
	}
	x := p.tasks[k]
	told := api.Task{Stage: x.stage, State: api.TaskReady, Wait: -1}
	if x.over {
		told.State = api.TaskOver
	} else if e := p.waitsFor(x); e >= 0 {
		told.State, told.Wait = api.TaskWaits, p.ends[e].Chan
	}
	return told
}

func (p *plain) ready() []int {
	var list []int
	for k := range p.tasks {
		if p.task(k).State == api.TaskReady {
			list = append(list, k)
		}
	}
	return list
}

func (p *plain) step(k int) bool {
	told := p.task(k)
	if told.State == api.TaskWaits {
		p.saw(p.tasks[k].next.what, "waits")
	}
	if told.State != api.TaskReady {
		p.saw("no step", told.State)
		return false
	}
	p.tasks[k].goOn()
	return true
}

func (p *plain) saw(what ...any) { p.seen[strings.TrimSpace(fmt.Sprintln(what...))]++ }

func exact(n int64) *big.Int { return big.NewInt(n) }

// wrapped is an exact number in 64 bits.
func wrapped(x *big.Int) int64 {
	bits := new(big.Int).And(x, new(big.Int).SetUint64(1<<64-1)).Uint64()
	return int64(bits)
}

// joinedExactly is what an Op makes of two numbers.
func joinedExactly(op int, a, b int64) int64 {
	x := new(big.Int)
	switch op {
	case api.OpAdd:
		return wrapped(x.Add(exact(a), exact(b)))
	case api.OpSub:
		return wrapped(x.Sub(exact(a), exact(b)))
	case api.OpMul:
		return wrapped(x.Mul(exact(a), exact(b)))
	case api.OpLess:
		return map[bool]int64{true: 1}[exact(a).Cmp(exact(b)) < 0]
	}
	return map[bool]int64{true: 1}[exact(a).Cmp(exact(b)) == 0]
}

func (p *plain) reckon(e api.Expr, k known) int64 {
	switch e.Op {
	case api.OpNum:
		return e.N
	case api.OpName:
		return k[e.Name].N
	case api.OpNeg:
		return joinedExactly(api.OpSub, 0, p.reckon(e.L[0], k))
	}
	return joinedExactly(e.Op, p.reckon(e.L[0], k), p.reckon(e.L[1], k))
}

func sameChan(a, b api.Chan) bool {
	return a.Slots == b.Slots && a.Senders == b.Senders && a.Gone == b.Gone && slices.Equal(a.Items, b.Items)
}

// alike: the mean tells all that the lists have.
func (p *plain) alike(t *testing.T, m *Mean) {
	t.Helper()
	for k := -1; k <= len(p.tasks); k++ {
		if got, want := m.Task(k), p.task(k); got != want {
			t.Fatalf("the task %d: %v, want %v", k, got, want)
		}
	}
	if m.Tasks() != len(p.tasks) {
		t.Fatalf("%d tasks, want %d", m.Tasks(), len(p.tasks))
	}
	if got := m.All(); !slices.Equal(got, p.ends) {
		t.Fatalf("ends: %s, want %s", toldEnds(got), toldEnds(p.ends))
	}
	if got := m.Chans(); !slices.EqualFunc(got, p.chans, sameChan) {
		t.Fatalf("channels: %s, want %s", toldChans(got), toldChans(p.chans))
	}
	if got := m.Events(); !slices.Equal(got, p.events) {
		t.Fatalf("events: %s, want %s", toldEvents(got), toldEvents(p.events))
	}
	if got := m.Out(); !slices.Equal(got, p.out) {
		t.Fatalf("emitted: %v, want %v", got, p.out)
	}
}
