package watch

import (
	"fmt"
	"math"
	"slices"
	"strconv"
	"strings"
	"testing"
	"time"

	"pipewright/api"
	"pipewright/lower"
	"pipewright/syntax"
	"pipewright/world"
)

// words of the Ops, of kinds of events, and of how runs end, each at its number.
var (
	words      = strings.Fields("? let emit chan clone send give close abandon drain spawn take turns count if jump over exit")
	eventWords = strings.Fields("? none sent twice owner moved gone leak stuck")
	howWords   = strings.Fields("? over stuck cut")
)

// wildPicks are those at the edges of what 64 bits can be.
var wildPicks = []int{math.MinInt, math.MinInt + 1, math.MinInt + 2, -1 << 32, -7, -4, -3, -2, -1, 0, 1, 2, 3, 4, 7, 1 << 31, 1 << 32, math.MaxInt - 2, math.MaxInt - 1, math.MaxInt}

func l(numbers ...int) []int { return numbers }

func in(numbers ...int64) []int64 { return numbers }

func fault(code, at int) api.Fault { return api.Fault{Code: code, At: at} }

// code has the last Proc for Main.
func code(procs ...api.Proc) api.Code { return api.Code{Procs: procs, Main: len(procs) - 1} }

// mainOf is code of one stage.
func mainOf(types, said string) api.Code { return code(proc(types, 1, said)) }

// place is the At of the instruction of a number.
func place(i int) int { return 100 + i }

// proc makes a Proc: its variables' types, how many of them are parameters, and
// instructions, InExit behind them. "take 1 0 :3" has A 1, B 0 and To 3; "chan 1
// 2 x5" has 5 slots (else 1); "let 1 5,v2,+" has an E (expr); of a spawn the
// first one is the stage, then "#1" is an Arg with V 1, and others are E.
func proc(types string, params int, said string) api.Proc {
	p := api.Proc{Params: params, Blocks: []api.Block{{Kind: api.BlockBody}}}
	for t := range strings.FieldsSeq(types) {
		p.Vars = append(p.Vars, api.Var{T: t})
	}
	for line := range strings.SplitSeq(said+";exit", ";") {
		if parts := strings.Fields(line); len(parts) > 0 {
			ins := instruction(p, parts)
			ins.At = place(len(p.Ins))
			p.Ins = append(p.Ins, ins)
		}
	}
	return p
}

func instruction(p api.Proc, parts []string) api.Ins {
	ins := api.Ins{Op: slices.Index(words, parts[0]), N: 1}
	var numbers []int
	for _, part := range parts[1:] {
		switch {
		case part[0] == ':':
			ins.To = number(part[1:])
		case part[0] == 'x':
			ins.N = number(part[1:])
		case part[0] == '#':
			ins.Args = append(ins.Args, api.Arg{V: number(part[1:])})
		case ins.Op == api.InSpawn && len(numbers) == 1:
			ins.Args = append(ins.Args, api.Arg{E: expr(part)})
		case len(numbers) == namedBy(ins.Op):
			ins.E = expr(part)
		default:
			numbers = append(numbers, number(part))
		}
	}
	numbers = append(numbers, 0, 0)
	ins.A, ins.B = numbers[0], numbers[1]
	if ins.Op == api.InChan {
		ins.T = p.Vars[ins.A].T[1:]
	}
	return ins
}

// namedBy is how many variables, or stages, stand ahead of an instruction's E.
func namedBy(op int) int {
	switch op {
	case api.InEmit, api.InIf:
		return 0
	case api.InLet, api.InTurns, api.InSend:
		return 1
	}
	return 9
}

// expr: "5,v2,+": steps, parted by commas; v2 is a variable.
func expr(said string) []api.Push {
	var steps []api.Push
	for word := range strings.SplitSeq(said, ",") {
		op := slices.Index(strings.Fields("? ? ? neg + - * < ="), word)
		switch {
		case op > 0:
			steps = append(steps, api.Push{Op: op})
		case word[0] == 'v':
			steps = append(steps, api.Push{Op: api.PushVar, N: int64(number(word[1:]))})
		default:
			steps = append(steps, api.Push{Op: api.PushNum, N: int64(number(word))})
		}
	}
	return steps
}

func number(s string) int {
	n, err := strconv.Atoi(s)
	if err != nil {
		panic(err)
	}
	return n
}

func rep(s string, n int) string { return strings.Repeat(s, n) }

// lowered is a program's code.
func lowered(t *testing.T, src string) api.Code {
	t.Helper()
	p, f := syntax.Parse(src)
	if f.Code != 0 {
		t.Fatal(src, f)
	}
	c, f := lower.Lower(p)
	if f.Code != 0 {
		t.Fatal(src, f)
	}
	return c
}

// ran is the report of code that may be run.
func ran(t *testing.T, c api.Code, in []int64, picks []int, most int) api.Report {
	t.Helper()
	r, f := Run(c, in, picks, most)
	if f != fault(0, 0) {
		t.Fatalf("Run: %v, want no fault", f)
	}
	return r
}

// whole is a run that nothing cuts off.
func whole(t *testing.T, c api.Code, in []int64, picks ...int) api.Report {
	t.Helper()
	return ran(t, c, in, picks, math.MaxInt)
}

// said is a report in words: "stuck 5: 7 8; gone:0@104:3 stuck:-1@-1:-1": behind
// 5 steps, 7 and 8 are emitted, and there is an event of the task 0, at 104, of
// the end 3.
func said(r api.Report) string {
	how := "?"
	if r.How > 0 && r.How < len(howWords) {
		how = howWords[r.How]
	}
	out := strings.Trim(fmt.Sprint(r.Out), "[]")
	return strings.TrimSpace(fmt.Sprintf("%s %d: %s; %s", how, r.Steps, out, saidEvents(r.Events)))
}

func saidEvents(events []api.Event) string {
	var all []string
	for _, e := range events {
		all = append(all, fmt.Sprintf("%s:%d@%d:%d", eventWords[e.Kind], e.Task, e.At, e.End))
	}
	return strings.Join(all, " ")
}

// wants asks for a run's report, in words, however often it is run.
func wants(t *testing.T, c api.Code, in []int64, picks []int, most int, want string) {
	t.Helper()
	for range 2 {
		if got := said(ran(t, c, in, picks, most)); got != want {
			t.Fatalf("picks %s, most %d: %q, want %q", short(picks), most, got, want)
		}
	}
}

func short(x any) string {
	if s := fmt.Sprint(x); len(s) > 400 {
		return s[:200] + " .. " + s[len(s)-200:]
	} else {
		return s
	}
}

// sameReport: are two runs told alike?
func sameReport(a, b api.Report) bool {
	return slices.Equal(a.Events, b.Events) && slices.Equal(a.Out, b.Out) && a.Steps == b.Steps && a.How == b.How
}

// turnsOf does so many steps as Run would, at most, and answers the world then,
// and how many tasks were ready ahead of each step.
func turnsOf(t *testing.T, c api.Code, in []int64, picks []int, most int) (w *world.World, ready []int) {
	t.Helper()
	w, f := world.New(c, in)
	if f != fault(0, 0) {
		t.Fatal(f)
	}
	for range most {
		list := w.Ready()
		if len(list) == 0 {
			break
		}
		k := 0
		if n := len(ready); n < len(picks) {
			k = exactly(picks[n], len(list))
		}
		if !w.Step(list[k]) {
			t.Fatalf("the task %d is ready, but stays", list[k])
		}
		ready = append(ready, len(list))
	}
	return w, ready
}

// inTime fails where something takes far longer than it should.
func inTime(t *testing.T, what string, do func()) {
	t.Helper()
	begun := time.Now()
	do()
	if took := time.Since(begun); took > 30*time.Second {
		t.Errorf("%s: %v", what, took)
	}
}
