package explain

import (
	"fmt"
	"math"
	"slices"
	"strconv"
	"strings"
	"testing"
	"time"

	"pipewright/api"
	"pipewright/lower"
	"pipewright/syntax"
)

// words of the Ops, each at its number.
var words = strings.Fields("none let emit chan clone send give close abandon drain spawn take turns count if jump over exit")

// wild are numbers that nothing has.
var wild = []int{math.MinInt64, math.MinInt64 + 1, -1 << 32, -3, -2, 1 << 32, math.MaxInt64 - 1, math.MaxInt64}

var rules = []int{api.RuleGone, api.RuleMaybe, api.RuleKept, api.RuleLeft}

func fault(code, at int) api.Fault { return api.Fault{Code: code, At: at} }

func goneAt(at, v int) api.Note  { return api.Note{Rule: api.RuleGone, At: at, Var: v} }
func maybeAt(at, v int) api.Note { return api.Note{Rule: api.RuleMaybe, At: at, Var: v} }
func keptAt(at, v int) api.Note  { return api.Note{Rule: api.RuleKept, At: at, Var: v} }
func leftAt(at, v int) api.Note  { return api.Note{Rule: api.RuleLeft, At: at, Var: v} }

func l(numbers ...int) []int { return numbers }

// code makes a Proc: its variables' types ("-": empty), how many of them are
// parameters, and instructions: "take 1 0 :3" has A 1, B 0 and To 3; of a spawn
// the numbers are the V of its Args, "e1" one that has an E, and V 1.
func code(types string, params int, said string) api.Proc {
	p := api.Proc{Params: params}
	for k, t := range strings.Fields(types) {
		p.Vars = append(p.Vars, api.Var{Name: "v" + strconv.Itoa(k), T: strings.Trim(t, "-")})
	}
	for line := range strings.SplitSeq(said, ";") {
		if parts := strings.Fields(line); len(parts) > 0 {
			p.Ins = append(p.Ins, instruction(parts))
		}
	}
	return p
}

func instruction(parts []string) api.Ins {
	ins := api.Ins{Op: slices.Index(words, parts[0])}
	if ins.Op < 0 {
		panic("no word: " + parts[0])
	}
	var numbers []int
	for _, part := range parts[1:] {
		switch {
		case part[0] == ':':
			ins.To = number(part[1:])
		case part[0] == 'e':
			ins.Args = append(ins.Args, api.Arg{E: []api.Push{{Op: api.PushNum, N: 1}}, V: number(part[1:])})
		case ins.Op == api.InSpawn:
			ins.Args = append(ins.Args, api.Arg{V: number(part)})
		default:
			numbers = append(numbers, number(part))
		}
	}
	numbers = append(numbers, 0, 0)
	ins.A, ins.B = numbers[0], numbers[1]
	return ins
}

func number(s string) int {
	n, err := strconv.Atoi(s)
	if err != nil {
		panic(err)
	}
	return n
}

// word is that of an Op, or the number of one that has none.
func word(op int) string {
	if op >= 0 && op < len(words) {
		return words[op]
	}
	return strconv.Itoa(op)
}

// said is the Proc in words, but the middle of a long one.
func said(p api.Proc) string {
	var all []string
	for _, v := range p.Vars[:min(len(p.Vars), 300)] {
		all = append(all, strconv.Quote(v.T))
	}
	all = append(all, fmt.Sprint("params ", p.Params, ":"))
	for i, ins := range p.Ins {
		if i > 100 && i < len(p.Ins)-100 {
			continue
		}
		all = append(all, fmt.Sprint(word(ins.Op), " ", ins.A, " ", ins.B, " :", ins.To))
		for _, arg := range ins.Args[:min(len(ins.Args), 100)] {
			all = append(all, fmt.Sprint("arg ", len(arg.E), " ", arg.V))
		}
		all = append(all, ";")
	}
	return short(strings.Join(all, " "))
}

func short(s string) string {
	if len(s) > 800 {
		return s[:400] + " .. " + s[len(s)-400:]
	}
	return s
}

func shown(x any) string { return short(fmt.Sprint(x)) }

// procs are the stages of a program, as code.
func procs(t *testing.T, src string) []api.Proc {
	t.Helper()
	p, f := syntax.Parse(src)
	if f.Code != 0 {
		t.Fatal(src, f)
	}
	c, f := lower.Lower(p)
	if f.Code != 0 {
		t.Fatal(src, f)
	}
	return c.Procs
}

// lowered is the stage main of a program, whose parameter is in.
func lowered(t *testing.T, body string) api.Proc {
	t.Helper()
	return procs(t, `stage two(a send int, b send int) { close a; close b; }
stage main(in recv int) { `+body+` }`)[1]
}

// wantWay: Why tells that way, and it holds.
func wantWay(t *testing.T, p api.Proc, n api.Note, want ...int) {
	t.Helper()
	way, f := Why(p, n)
	if f != fault(0, 0) || !slices.Equal(way, want) {
		t.Errorf("Why(%s, %v): %s %v, want %s", said(p), n, shown(way), f, shown(want))
	}
	wantHolds(t, p, n, true, want)
}

// wantFault: Why tells a fault, and no way.
func wantFault(t *testing.T, p api.Proc, n api.Note, want api.Fault) {
	t.Helper()
	if way, f := Why(p, n); f != want || len(way) != 0 {
		t.Errorf("Why(%s, %v): %s %v, want %v", said(p), n, shown(way), f, want)
	}
}

func wantNone(t *testing.T, p api.Proc, n api.Note) {
	t.Helper()
	wantFault(t, p, n, fault(api.ErrNone, -1))
}

func wantHolds(t *testing.T, p api.Proc, n api.Note, want bool, ways ...[]int) {
	t.Helper()
	for _, way := range ways {
		if got := Holds(p, n, way); got != want {
			t.Errorf("Holds(%s, %v, %s): %v, want %v", said(p), n, shown(way), got, want)
		}
	}
}

// eachList hands over all lists of numbers from the least on, below an end, of
// at most so many, the shorter ones first, and then the lower ones.
func eachList(least, end, most int, do func(list []int)) {
	var lay func(list []int, k int)
	lay = func(list []int, k int) {
		if k == len(list) {
			do(list)
			return
		}
		for list[k] = least; list[k] < end; list[k]++ {
			lay(list, k+1)
		}
	}
	for n := range most + 1 {
		lay(make([]int, n), 0)
	}
}

// upTo counts from one number on, below an end.
func upTo(from, end int) []int {
	var all []int
	for i := from; i < end; i++ {
		all = append(all, i)
	}
	return all
}

// inTime fails where a call does not end.
func inTime(t *testing.T, what string, do func()) {
	t.Helper()
	done := make(chan int)
	go func() {
		defer close(done)
		do()
	}()
	select {
	case <-done:
	case <-time.After(60 * time.Second):
		t.Fatalf("%s: it goes on and on", what)
	}
}
