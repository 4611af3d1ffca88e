package mean

import (
	"fmt"
	"math"
	"slices"
	"strings"
	"testing"
	"time"

	"pipewright/api"
	"pipewright/kinds"
	"pipewright/syntax"
)

const (
	least    = math.MinInt64
	greatest = math.MaxInt64
)

// words of the kinds of statements, and of events, each at its number.
var (
	words      = strings.Fields("? let set emit chan clone send close abandon drain spawn take for repeat if")
	eventWords = strings.Fields("? none sent twice owner moved gone leak stuck")
)

// noTasks are numbers that no task of a small mean has.
var noTasks = []int{math.MinInt, math.MinInt + 1, -1 << 32, -3, -2, -1, 1 << 31, 1 << 32, math.MaxInt - 1, math.MaxInt}

func in(numbers ...int64) []int64 { return numbers }

func fault(code, at int) api.Fault { return api.Fault{Code: code, At: at} }

func parsed(t *testing.T, src string) api.Program {
	t.Helper()
	p, f := syntax.Parse(src)
	if f.Code != 0 {
		t.Fatal(src, f)
	}
	return p
}

// placed numbers the statements, as they stand, from 100 on, and the stages from
// 900 on: these are their places.
func placed(p api.Program) api.Program {
	n := 99
	var within func(list []api.Stmt)
	within = func(list []api.Stmt) {
		for k := range list {
			n++
			list[k].At = n
			within(list[k].Body)
			within(list[k].Else)
		}
	}
	for k := range p.Stages {
		p.Stages[k].At = 900 + k
		within(p.Stages[k].Body)
	}
	return p
}

// said is the program of a text, placed.
func said(t *testing.T, src string) api.Program {
	t.Helper()
	p := placed(parsed(t, src))
	if f := kinds.Check(p); f.Code != 0 {
		t.Fatal(src, f)
	}
	return p
}

// begunOf is a mean of a program that is right.
func begunOf(t *testing.T, p api.Program, in ...int64) *Mean {
	t.Helper()
	m, f := New(p, in)
	if f != fault(0, 0) || m == nil {
		t.Fatalf("New: %v, want no fault", f)
	}
	return m
}

func begun(t *testing.T, src string, in ...int64) *Mean {
	t.Helper()
	return begunOf(t, said(t, src), in...)
}

// begunMain is a mean of one stage, main, whose parameter is in.
func begunMain(t *testing.T, does string, in ...int64) *Mean {
	t.Helper()
	return begun(t, "stage main(in recv int) { "+does+" }", in...)
}

// view is all that a mean tells, in words.
type view struct{ tasks, ends, chans, events, out string }

func viewOf(m *Mean) view {
	return view{toldTasks(m), toldEnds(m.All()), toldChans(m.Chans()), toldEvents(m.Events()), toldOut(m.Out())}
}

func toldOut(out []int64) string {
	return joinedWith(out, func(n int64) string { return fmt.Sprint(n) })
}

func joinedWith[T any](list []T, told func(x T) string) string {
	var all []string
	for _, x := range list {
		all = append(all, told(x))
	}
	return strings.Join(all, " ")
}

// toldTasks has a word for each task: "2": of the stage 2, ready; "2?3": it waits
// for the channel 3; "2!": it is over.
func toldTasks(m *Mean) string {
	var all []string
	for k := range m.Tasks() {
		all = append(all, toldTask(m.Task(k)))
	}
	return strings.Join(all, " ")
}

func toldTask(x api.Task) string {
	switch {
	case x.State == api.TaskOver && x.Wait == -1:
		return fmt.Sprintf("%d!", x.Stage)
	case x.State == api.TaskWaits && x.Wait >= 0:
		return fmt.Sprintf("%d?%d", x.Stage, x.Wait)
	case x.State == api.TaskReady && x.Wait == -1:
		return fmt.Sprint(x.Stage)
	}
	return fmt.Sprint("odd:", x)
}

// toldEnds has a word for each end: "s3:5": to send, of the channel 3, the task
// 5's; "r3:*" lies in a channel; "r3:-2" was dropped twice.
func toldEnds(ends []api.End) string {
	return joinedWith(ends, func(e api.End) string {
		told := "r"
		if e.Send {
			told = "s"
		}
		told += fmt.Sprint(e.Chan, ":")
		switch {
		case e.Home == api.HomeDropped && e.Drops > 0:
			return told + fmt.Sprint(-e.Drops)
		case e.Home == api.HomeRing && e.Drops == 0:
			return told + "*"
		case e.Home >= 0 && e.Drops == 0:
			return told + fmt.Sprint(e.Home)
		}
		return told + fmt.Sprint("odd", e)
	})
}

// toldChans has a word for each channel: "3/1[7,e4]": 3 slots, 1 sender, in it
// the number 7 and the end 4; a - behind it: it is gone.
func toldChans(chans []api.Chan) string {
	return joinedWith(chans, func(c api.Chan) string {
		items := joinedWith(c.Items, func(x api.Item) string {
			switch {
			case x.End == -1:
				return fmt.Sprint(x.N)
			case x.N == 0:
				return fmt.Sprint("e", x.End)
			}
			return fmt.Sprint("odd", x)
		})
		told := fmt.Sprintf("%d/%d[%s]", c.Slots, c.Senders, strings.ReplaceAll(items, " ", ","))
		if c.Gone {
			told += "-"
		}
		return told
	})
}

// toldEvents has a word for each event: "gone:0@104:3": of the task 0, at 104,
// of the end 3.
func toldEvents(events []api.Event) string {
	return joinedWith(events, func(e api.Event) string {
		return fmt.Sprintf("%s:%d@%d:%d", eventWords[e.Kind], e.Task, e.At, e.End)
	})
}

// shows asks for all that a mean tells, however often it is asked.
func shows(t *testing.T, m *Mean, tasks, ends, chans, events, out string) {
	t.Helper()
	want := view{tasks, ends, chans, events, out}
	for range 2 {
		if got := viewOf(m); got != want {
			t.Fatalf("the mean is\n%+v, want\n%+v", got, want)
		}
	}
}

// tells asks for events and for what is emitted alone.
func tells(t *testing.T, m *Mean, events, out string) {
	t.Helper()
	if got := viewOf(m); got.events != events || got.out != out {
		t.Fatalf("told is %q, emitted %q, want %q, %q", got.events, got.out, events, out)
	}
}

// goes: the tasks go on, one behind the other.
func goes(t *testing.T, m *Mean, picks ...int) {
	t.Helper()
	for n, k := range picks {
		if !m.Step(k) {
			t.Fatalf("pick %d: the task %d stays: %+v", n, k, viewOf(m))
		}
	}
}

// goesOn: a task goes on by so many deeds.
func goesOn(t *testing.T, m *Mean, k, deeds int) {
	t.Helper()
	goes(t, m, slices.Repeat([]int{k}, deeds)...)
}

// stays: the picks are refused, and nothing changes.
func stays(t *testing.T, m *Mean, picks ...int) {
	t.Helper()
	before := viewOf(m)
	for _, k := range picks {
		if m.Step(k) {
			t.Fatalf("the task %d goes on: %+v", k, viewOf(m))
		}
		if got := viewOf(m); got != before {
			t.Fatalf("a pick of %d that can't be changed\n%+v to\n%+v", k, before, got)
		}
	}
}

// ready are the tasks that are ready, rising.
func ready(m *Mean) []int {
	var list []int
	for k := range m.Tasks() {
		if m.Task(k).State == api.TaskReady {
			list = append(list, k)
		}
	}
	return list
}

// runs: the first task that is ready goes on, till none is.
func runs(t *testing.T, m *Mean) (deeds int) {
	t.Helper()
	for list := ready(m); len(list) > 0; list = ready(m) {
		goes(t, m, list[0])
		if deeds++; deeds > 100000 {
			t.Fatalf("it goes on and on: %+v", viewOf(m))
		}
	}
	return deeds
}

// overIn: a stage main that does this is over behind so many deeds.
func overIn(t *testing.T, deeds int, does, events, out string, in ...int64) {
	t.Helper()
	m := begunMain(t, does, in...)
	if n := runs(t, m); n != deeds || toldTasks(m) != "0!" {
		t.Fatalf("%s: %d deeds, want %d: %+v", does, n, deeds, viewOf(m))
	}
	if got := viewOf(m); got.events != events || got.out != out {
		t.Fatalf("%s: told is %q, emitted %q, want %q, %q", does, got.events, got.out, events, out)
	}
}

// inTime fails where something takes far longer than it should.
func inTime(t *testing.T, what string, do func()) {
	t.Helper()
	begun := time.Now()
	do()
	if took := time.Since(begun); took > 30*time.Second {
		t.Errorf("%s: %v", what, took)
	}
}
