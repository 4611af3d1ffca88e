package tree

import (
	"fmt"
	"math"
	"reflect"
	"slices"
	"strconv"
	"strings"
	"testing"
	"time"

	"pipewright/api"
	"pipewright/lower"
	"pipewright/syntax"
)

// words of the Ops, each at its number.
var words = strings.Fields("none let emit chan clone send give close abandon drain spawn take turns count if jump over exit")

// wild are numbers that nothing has.
var wild = []int{math.MinInt64, math.MinInt64 + 1, -1 << 32, -2, -1, 1 << 32, math.MaxInt64 - 1, math.MaxInt64}

// allTypes are those that a variable may have.
var allTypes = strings.Fields("i si ri ssi sri rsi rri sssi ssri srsi srri rssi rsri rrsi rrri")

func fault(code, at int) api.Fault { return api.Fault{Code: code, At: at} }

// code has the last Proc for Main.
func code(procs ...api.Proc) api.Code { return api.Code{Procs: procs, Main: len(procs) - 1} }

// proc makes a Proc that may be run: its variables' types, how many of them are
// parameters, and instructions, InExit behind them: "take 1 0 :3" has A 1, B 0
// and To 3; "chan 1 2 x5" has 5 slots (else 1); of a spawn the first number is
// the stage, the others the V of its Args, "e1" is one that has an E, and V 1.
func proc(types string, params int, said string) api.Proc {
	p := api.Proc{Params: params, Blocks: []api.Block{{Kind: api.BlockBody}}}
	for k, t := range strings.Fields(types) {
		p.Vars = append(p.Vars, api.Var{Name: "v" + strconv.Itoa(k), T: t})
	}
	for line := range strings.SplitSeq(said, ";") {
		if parts := strings.Fields(line); len(parts) > 0 {
			p.Ins = append(p.Ins, instruction(p, parts))
		}
	}
	p.Ins = append(p.Ins, api.Ins{Op: api.InExit})
	return p
}

func instruction(p api.Proc, parts []string) api.Ins {
	ins := api.Ins{Op: slices.Index(words, parts[0]), E: one()}
	if ins.Op < 0 {
		panic("no word: " + parts[0])
	}
	var numbers []int
	for _, part := range parts[1:] {
		switch {
		case part[0] == ':':
			ins.To = number(part[1:])
		case part[0] == 'x':
			ins.N = number(part[1:])
		case part[0] == 'e':
			ins.Args = append(ins.Args, api.Arg{E: one(), V: number(part[1:])})
		case ins.Op == api.InSpawn && len(numbers) > 0:
			ins.Args = append(ins.Args, api.Arg{V: number(part)})
		default:
			numbers = append(numbers, number(part))
		}
	}
	numbers = append(numbers, 0, 0)
	ins.A, ins.B = numbers[0], numbers[1]
	if ins.Op == api.InChan {
		ins.N, ins.T = max(ins.N, 1), p.Vars[ins.A].T[1:]
	}
	return ins
}

func one() []api.Push { return []api.Push{{Op: api.PushNum, N: 1}} }

func number(s string) int {
	n, err := strconv.Atoi(s)
	if err != nil {
		panic(err)
	}
	return n
}

func rep(s string, n int) string { return strings.Repeat(s, n) }

// lowered is a program's code.
func lowered(t *testing.T, src string) api.Code {
	t.Helper()
	p, f := syntax.Parse(src)
	if f.Code != 0 {
		t.Fatal(short(src), f)
	}
	c, f := lower.Lower(p)
	if f.Code != 0 {
		t.Fatal(short(src), f)
	}
	return c
}

// said is code in words, but the middle of a long one.
func said(c api.Code) string {
	var all []string
	for k, p := range c.Procs {
		all = append(all, fmt.Sprint("Proc ", k, " of "))
		for _, v := range p.Vars {
			all = append(all, v.T)
		}
		all = append(all, fmt.Sprint("with ", p.Params, ":"))
		for _, ins := range p.Ins {
			all = append(all, fmt.Sprint(words[ins.Op], " ", ins.A, " ", ins.B))
			for _, arg := range ins.Args {
				all = append(all, fmt.Sprint("arg ", len(arg.E), " ", arg.V))
			}
			all = append(all, ";")
		}
	}
	return short(strings.Join(all, " ") + fmt.Sprint(" Main ", c.Main))
}

func short(s string) string {
	if len(s) > 1000 {
		return s[:500] + " .. " + s[len(s)-500:]
	}
	return s
}

func shown(x any) string { return short(fmt.Sprint(x)) }

// grown is the tree of code that has one.
func grown(t *testing.T, c api.Code) api.Tree {
	t.Helper()
	g, f := Grow(c)
	if f != fault(0, 0) {
		t.Fatalf("Grow(%s): %v, want no fault", said(c), f)
	}
	return g
}

// wantFault asks for the zero Tree, too.
func wantFault(t *testing.T, what string, c api.Code, code, at int) {
	t.Helper()
	g, f := Grow(c)
	if f != fault(code, at) || !reflect.DeepEqual(g, api.Tree{}) {
		t.Errorf("Grow of %s: %s %v, want %v", what, shown(g), f, fault(code, at))
	}
}

// toldTasks has a word for each task: its stage, its Parent and its At.
func toldTasks(g api.Tree) string {
	var all []string
	for _, k := range g.Tasks {
		all = append(all, fmt.Sprintf("%d<%d@%d", k.Stage, k.Parent, k.At))
	}
	return strings.Join(all, " ")
}

// toldSites has a word for each channel: its task, its At, its slots, its type.
func toldSites(g api.Tree) string {
	var all []string
	for _, s := range g.Sites {
		all = append(all, fmt.Sprintf("%d@%d:%d%s", s.Task, s.At, s.Slots, s.T))
	}
	return strings.Join(all, " ")
}

// toldMay has a word for each variable, "." where it may be of no channel, and
// a / between tasks.
func toldMay(g api.Tree) string {
	var tasks []string
	for _, lists := range g.May {
		words := []string{}
		for _, list := range lists {
			word := strings.Trim(strings.ReplaceAll(fmt.Sprint(list), " ", ","), "[]")
			if word == "" {
				word = "."
			}
			words = append(words, word)
		}
		tasks = append(tasks, strings.Join(words, " "))
	}
	return strings.Join(tasks, " / ")
}

func wantTasks(t *testing.T, c api.Code, want string) {
	t.Helper()
	if got := toldTasks(grown(t, c)); got != want {
		t.Errorf("tasks of %s: %s, want %s", said(c), short(got), short(want))
	}
}

func wantSites(t *testing.T, c api.Code, want string) {
	t.Helper()
	if got := toldSites(grown(t, c)); got != want {
		t.Errorf("channels of %s: %s, want %s", said(c), short(got), short(want))
	}
}

func wantMay(t *testing.T, c api.Code, want string) {
	t.Helper()
	if got := toldMay(grown(t, c)); got != want {
		t.Errorf("lists of %s: %s, want %s", said(c), short(got), short(want))
	}
}

// twin is of its own memory; its lists have room behind their length, where
// what must not be looked at lies.
func twin[T any](x T) T { return copied(reflect.ValueOf(x)).Interface().(T) }

func copied(v reflect.Value) reflect.Value {
	out := reflect.New(v.Type()).Elem()
	switch v.Kind() {
	case reflect.Slice:
		if v.Len() == 0 {
			return out
		}
		out = reflect.MakeSlice(v.Type(), v.Len(), v.Len()+2)
		for i := range v.Len() {
			out.Index(i).Set(copied(v.Index(i)))
		}
	case reflect.Struct:
		for i := range v.NumField() {
			out.Field(i).Set(copied(v.Field(i)))
		}
	case reflect.String:
		out.SetString(strings.Clone(v.String()))
	default:
		out.Set(v)
	}
	return out
}

// changed is a copy with one thing changed.
func changed(c api.Code, do func(c *api.Code)) api.Code {
	c = twin(c)
	do(&c)
	return c
}

// inTime fails where a call does not end.
func inTime(t *testing.T, what string, do func()) {
	t.Helper()
	done := make(chan int)
	go func() {
		defer close(done)
		do()
	}()
	select {
	case <-done:
	case <-time.After(60 * time.Second):
		t.Fatalf("%s: it goes on and on", what)
	}
}
