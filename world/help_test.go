package world

import (
	"fmt"
	"math"
	"slices"
	"strconv"
	"strings"
	"testing"
	"time"

	"pipewright/api"
	"pipewright/lower"
	"pipewright/syntax"
)

const (
	least    = math.MinInt64
	greatest = math.MaxInt64
)

// words of the Ops, and of kinds of events, each at its number.
var (
	words      = strings.Fields("? let emit chan clone send give close abandon drain spawn take turns count if jump over exit")
	eventWords = strings.Fields("? none sent twice owner moved gone leak stuck")
)

// noTasks are numbers that no task of a small world has.
var noTasks = []int{math.MinInt, math.MinInt + 1, -1 << 32, -3, -2, -1, 1 << 31, 1 << 32, math.MaxInt - 1, math.MaxInt}

func l(numbers ...int) []int { return numbers }

func in(numbers ...int64) []int64 { return numbers }

func fault(code, at int) api.Fault { return api.Fault{Code: code, At: at} }

// code has the last Proc for Main.
func code(procs ...api.Proc) api.Code { return api.Code{Procs: procs, Main: len(procs) - 1} }

// place is the At of the instruction of a number.
func place(i int) int { return 100 + i }

// proc makes a Proc: its variables' types, how many of them are parameters, and
// instructions, InExit behind them. "take 1 0 :3" has A 1, B 0 and To 3; "chan 1
// 2 x5" has 5 slots (else 1); "let 1 5,v2,+" has an E (expr); of a spawn the
// first one is the stage, then "#1" is an Arg with V 1, and others are E.
func proc(types string, params int, said string) api.Proc {
	p := api.Proc{Params: params, Blocks: []api.Block{{Kind: api.BlockBody}}}
	for _, t := range strings.Fields(types) {
		p.Vars = append(p.Vars, api.Var{T: t})
	}
	for line := range strings.SplitSeq(said+";exit", ";") {
		if parts := strings.Fields(line); len(parts) > 0 {
			ins := instruction(p, parts)
			ins.At = place(len(p.Ins))
			p.Ins = append(p.Ins, ins)
		}
	}
	return p
}

func instruction(p api.Proc, parts []string) api.Ins {
	ins := api.Ins{Op: slices.Index(words, parts[0]), N: 1}
	var numbers []int
	for _, part := range parts[1:] {
		switch {
		case part[0] == ':':
			ins.To = number(part[1:])
		case part[0] == 'x':
			ins.N = number(part[1:])
		case part[0] == '#':
			ins.Args = append(ins.Args, api.Arg{V: number(part[1:])})
		case ins.Op == api.InSpawn && len(numbers) == 1:
			ins.Args = append(ins.Args, api.Arg{E: expr(part)})
		case len(numbers) == namedBy(ins.Op):
			ins.E = expr(part)
		default:
			numbers = append(numbers, number(part))
		}
	}
	numbers = append(numbers, 0, 0)
	ins.A, ins.B = numbers[0], numbers[1]
	if ins.Op == api.InChan {
		ins.T = p.Vars[ins.A].T[1:]
	}
	return ins
}

// namedBy is how many variables, or stages, stand ahead of an instruction's E.
func namedBy(op int) int {
	switch op {
	case api.InEmit, api.InIf:
		return 0
	case api.InLet, api.InTurns, api.InSend:
		return 1
	}
	return 9
}

// expr: "5,v2,+": steps, parted by commas; v2 is a variable.
func expr(said string) []api.Push {
	var steps []api.Push
	for word := range strings.SplitSeq(said, ",") {
		op := slices.Index(strings.Fields("? ? ? neg + - * < ="), word)
		switch {
		case op > 0:
			steps = append(steps, api.Push{Op: op})
		case word[0] == 'v':
			steps = append(steps, api.Push{Op: api.PushVar, N: int64(number(word[1:]))})
		default:
			steps = append(steps, api.Push{Op: api.PushNum, N: int64(number(word))})
		}
	}
	return steps
}

func number(s string) int {
	n, err := strconv.Atoi(s)
	if err != nil {
		panic(err)
	}
	return n
}

// lowered is a program's code.
func lowered(t *testing.T, src string) api.Code {
	t.Helper()
	p, f := syntax.Parse(src)
	if f.Code != 0 {
		t.Fatal(src, f)
	}
	c, f := lower.Lower(p)
	if f.Code != 0 {
		t.Fatal(src, f)
	}
	return c
}

// begun is a world of code that may be run.
func begun(t *testing.T, c api.Code, in ...int64) *World {
	t.Helper()
	w, f := New(c, in)
	if f != fault(0, 0) || w == nil {
		t.Fatalf("New: %v, want no fault", f)
	}
	return w
}

// view is all that a world tells, in words.
type view struct{ tasks, ends, chans, events, out string }

func viewOf(w *World) view {
	return view{toldTasks(w), toldEnds(w.All()), toldChans(w.Chans()), toldEvents(w.Events()), joinedWith(w.Out(), func(n int64) string { return fmt.Sprint(n) })}
}

func joinedWith[T any](list []T, told func(x T) string) string {
	var all []string
	for _, x := range list {
		all = append(all, told(x))
	}
	return strings.Join(all, " ")
}

// toldTasks has a word for each task: "2@5": of the stage 2, at 5, ready; "2@5?3":
// it waits for the channel 3; "2!": it is over. ~: it is silent.
func toldTasks(w *World) string {
	var all []string
	ready := w.Ready()
	for k := range w.Tasks() {
		x, told := w.Task(k), ""
		switch {
		case x.State == api.TaskOver && x.Wait == -1 && w.At(k) == -1:
			told = fmt.Sprintf("%d!", x.Stage)
		case x.State == api.TaskWaits && x.Wait >= 0:
			told = fmt.Sprintf("%d@%d?%d", x.Stage, w.At(k), x.Wait)
		case x.State == api.TaskReady && x.Wait == -1 && len(ready) > 0 && ready[0] == k:
			told = fmt.Sprintf("%d@%d", x.Stage, w.At(k))
			ready = ready[1:]
		default:
			told = fmt.Sprint("odd:", x, w.At(k))
		}
		if w.Silent(k) {
			told += "~"
		}
		all = append(all, told)
	}
	if len(ready) > 0 {
		all = append(all, fmt.Sprint("ready, too: ", ready))
	}
	return strings.Join(all, " ")
}

// toldEnds has a word for each end: "s3:5": to send, of the channel 3, the task
// 5's; "r3:*" lies in a channel; "r3:-2": was dropped twice.
func toldEnds(ends []api.End) string {
	return joinedWith(ends, func(e api.End) string {
		told := "r"
		if e.Send {
			told = "s"
		}
		told += fmt.Sprint(e.Chan, ":")
		switch {
		case e.Home == api.HomeDropped && e.Drops > 0:
			return told + fmt.Sprint(-e.Drops)
		case e.Home == api.HomeRing && e.Drops == 0:
			return told + "*"
		case e.Home >= 0 && e.Drops == 0:
			return told + fmt.Sprint(e.Home)
		}
		return told + fmt.Sprint("odd", e)
	})
}

// toldChans has a word for each channel: "3/1[7,e4]": 3 slots, 1 sender, in it
// the number 7 and the end 4; a - behind it: it is gone.
func toldChans(chans []api.Chan) string {
	return joinedWith(chans, func(c api.Chan) string {
		items := joinedWith(c.Items, func(x api.Item) string {
			switch {
			case x.End == -1:
				return fmt.Sprint(x.N)
			case x.N == 0:
				return fmt.Sprint("e", x.End)
			}
			return fmt.Sprint("odd", x)
		})
		told := fmt.Sprintf("%d/%d[%s]", c.Slots, c.Senders, strings.ReplaceAll(items, " ", ","))
		if c.Gone {
			told += "-"
		}
		return told
	})
}

// toldEvents has a word for each event: "gone:0@104:3": of the task 0, at 104,
// of the end 3.
func toldEvents(events []api.Event) string {
	return joinedWith(events, func(e api.Event) string {
		return fmt.Sprintf("%s:%d@%d:%d", eventWords[e.Kind], e.Task, e.At, e.End)
	})
}

// shows asks for all that a world tells, however often it is asked.
func shows(t *testing.T, w *World, tasks, ends, chans, events, out string) {
	t.Helper()
	want := view{tasks, ends, chans, events, out}
	for range 2 {
		if got := viewOf(w); got != want {
			t.Fatalf("the world is\n%+v, want\n%+v", got, want)
		}
	}
}

// goes: the tasks go on, one behind the other.
func goes(t *testing.T, w *World, picks ...int) {
	t.Helper()
	for n, k := range picks {
		if !w.Step(k) {
			t.Fatalf("pick %d: the task %d stays: %+v", n, k, viewOf(w))
		}
	}
}

// goesTo: a task goes on till an instruction is its next one.
func goesTo(t *testing.T, w *World, k, at int) {
	t.Helper()
	for range 10000 {
		if w.At(k) == at {
			return
		}
		goes(t, w, k)
	}
	t.Fatalf("the task %d does not come to %d: %+v", k, at, viewOf(w))
}

// stays: the picks are refused, and nothing changes.
func stays(t *testing.T, w *World, picks ...int) {
	t.Helper()
	before := viewOf(w)
	for _, k := range picks {
		if w.Step(k) {
			t.Fatalf("the task %d goes on: %+v", k, viewOf(w))
		}
		if got := viewOf(w); got != before {
			t.Fatalf("a pick of %d that can't be changed\n%+v to\n%+v", k, before, got)
		}
	}
}

// runs: the first task that is ready goes on, till none is.
func runs(t *testing.T, w *World) (picks []int) {
	t.Helper()
	for ready := w.Ready(); len(ready) > 0; ready = w.Ready() {
		goes(t, w, ready[0])
		picks = append(picks, ready[0])
		if len(picks) > 100000 {
			t.Fatalf("it goes on and on: %+v", viewOf(w))
		}
	}
	return picks
}

// inTime fails where something takes far longer than it should.
func inTime(t *testing.T, what string, do func()) {
	t.Helper()
	begun := time.Now()
	do()
	if took := time.Since(begun); took > 30*time.Second {
		t.Errorf("%s: %v", what, took)
	}
}
