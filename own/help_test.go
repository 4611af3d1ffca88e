package own

import (
	"fmt"
	"math"
	"slices"
	"strconv"
	"strings"
	"testing"
	"time"

	"pipewright/api"
	"pipewright/lower"
	"pipewright/syntax"
)

// words of the Ops, each at its number.
var words = strings.Fields("none let emit chan clone send give close abandon drain spawn take turns count if jump over exit")

// wild are numbers that nothing has.
var wild = []int{math.MinInt64, math.MinInt64 + 1, -1 << 32, -2, -1, 1 << 32, math.MaxInt64 - 1, math.MaxInt64}

// code makes a Proc: its variables' types ("-": empty), how many of them are
// parameters, and instructions: "take 1 0 :3" has A 1, B 0 and To 3; of a spawn
// the numbers are the V of its Args, "e1" one that has an E, and V 1.
func code(types string, params int, said string) api.Proc {
	p := api.Proc{Params: params}
	for k, t := range strings.Fields(types) {
		p.Vars = append(p.Vars, api.Var{Name: "v" + strconv.Itoa(k), T: strings.Trim(t, "-")})
	}
	for line := range strings.SplitSeq(said, ";") {
		if parts := strings.Fields(line); len(parts) > 0 {
			p.Ins = append(p.Ins, instruction(parts))
		}
	}
	return p
}

func instruction(parts []string) api.Ins {
	ins := api.Ins{Op: slices.Index(words, parts[0])}
	if ins.Op < 0 {
		panic("no word: " + parts[0])
	}
	var numbers []int
	for _, part := range parts[1:] {
		switch {
		case part[0] == ':':
			ins.To = number(part[1:])
		case part[0] == 'e':
			ins.Args = append(ins.Args, api.Arg{E: []api.Push{{Op: api.PushNum, N: 1}}, V: number(part[1:])})
		case ins.Op == api.InSpawn:
			ins.Args = append(ins.Args, api.Arg{V: number(part)})
		default:
			numbers = append(numbers, number(part))
		}
	}
	numbers = append(numbers, 0, 0)
	ins.A, ins.B = numbers[0], numbers[1]
	return ins
}

func number(s string) int {
	n, err := strconv.Atoi(s)
	if err != nil {
		panic(err)
	}
	return n
}

// word is that of an Op, or the number of one that has none.
func word(op int) string {
	if op >= 0 && op < len(words) {
		return words[op]
	}
	return strconv.Itoa(op)
}

// said is the Proc in words, but the middle of a long one.
func said(p api.Proc) string {
	var all []string
	for _, v := range p.Vars {
		all = append(all, strconv.Quote(v.T))
	}
	all = append(all, fmt.Sprint("params ", p.Params, ":"))
	for _, ins := range p.Ins {
		all = append(all, fmt.Sprint(word(ins.Op), " ", ins.A, " ", ins.B, " :", ins.To))
		for _, arg := range ins.Args {
			all = append(all, fmt.Sprint("arg ", len(arg.E), " ", arg.V))
		}
		all = append(all, ";")
	}
	return short(strings.Join(all, " "))
}

func short(s string) string {
	if len(s) > 600 {
		return s[:300] + " .. " + s[len(s)-300:]
	}
	return s
}

func shown(x any) string { return short(fmt.Sprint(x)) }

// lowered is the stage main of a program, whose parameter is in.
func lowered(t *testing.T, body string) api.Proc {
	t.Helper()
	p, f := syntax.Parse(`stage two(a send int, b send int) { close a; close b; }
stage main(in recv int) { ` + body + ` }`)
	if f.Code != 0 {
		t.Fatal(body, f)
	}
	c, f := lower.Lower(p)
	if f.Code != 0 {
		t.Fatal(body, f)
	}
	return c.Procs[1]
}

func wantActs(t *testing.T, p api.Proc, i int, want ...api.Act) {
	t.Helper()
	if got := Acts(p, i); !slices.Equal(got, want) {
		t.Errorf("Acts(%s, %d): %s, want %s", said(p), i, shown(got), shown(want))
	}
}

// wantStates: a word for each instruction, a digit for each variable ("." where
// there are none).
func wantStates(t *testing.T, p api.Proc, want string) {
	t.Helper()
	var rows []string
	for _, row := range States(p) {
		digits := ""
		for _, state := range row {
			digits += strconv.Itoa(state)
		}
		if len(row) == 0 {
			digits = "."
		}
		rows = append(rows, digits)
	}
	if got := strings.Join(rows, " "); got != want {
		t.Errorf("States(%s): %s, want %s", said(p), short(got), short(want))
	}
}

func wantNotes(t *testing.T, p api.Proc, want ...api.Note) {
	t.Helper()
	if got := Notes(p); !slices.Equal(got, want) {
		t.Errorf("Notes(%s): %s, want %s", said(p), shown(got), shown(want))
	}
}

func gone(at, v int) api.Note  { return api.Note{Rule: api.RuleGone, At: at, Var: v} }
func maybe(at, v int) api.Note { return api.Note{Rule: api.RuleMaybe, At: at, Var: v} }
func kept(at, v int) api.Note  { return api.Note{Rule: api.RuleKept, At: at, Var: v} }
func left(at, v int) api.Note  { return api.Note{Rule: api.RuleLeft, At: at, Var: v} }

// inTime fails where a call does not end.
func inTime(t *testing.T, what string, do func()) {
	t.Helper()
	done := make(chan int)
	go func() {
		defer close(done)
		do()
	}()
	select {
	case <-done:
	case <-time.After(60 * time.Second):
		t.Fatalf("%s: it goes on and on", what)
	}
}
