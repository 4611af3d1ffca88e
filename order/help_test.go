package order

import (
	"fmt"
	"math"
	"reflect"
	"slices"
	"strconv"
	"strings"
	"testing"
	"time"

	"pipewright/api"
	"pipewright/lower"
	"pipewright/syntax"
	"pipewright/tree"
)

// words of the Ops, each at its number.
var words = strings.Fields("none let emit chan clone send give close abandon drain spawn take turns count if jump over exit")

// wild are numbers that nothing has.
var wild = []int{math.MinInt64, -1 << 32, -2, -1, 1 << 32, math.MaxInt64}

// allTypes are those that a variable may have.
var allTypes = strings.Fields("i si ri ssi sri rsi rri sssi ssri srsi srri rssi rsri rrsi rrri")

func fault(code, at int) api.Fault { return api.Fault{Code: code, At: at} }

// code has the last Proc for Main.
func code(procs ...api.Proc) api.Code { return api.Code{Procs: procs, Main: len(procs) - 1} }

// proc makes a Proc that may be run: its variables' types, how many of them are
// parameters, and instructions, InExit behind them: "take 1 0 :3" has A 1, B 0
// and To 3; "chan 1 2 x5" has 5 slots (else 1); of a spawn the first number is
// the stage, the others the V of its Args, "e1" is one that has an E, and V 1.
func proc(types string, params int, said string) api.Proc {
	p := api.Proc{Params: params, Blocks: []api.Block{{Kind: api.BlockBody}}}
	for k, t := range strings.Fields(types) {
		p.Vars = append(p.Vars, api.Var{Name: "v" + strconv.Itoa(k), T: t})
	}
	for line := range strings.SplitSeq(said, ";") {
		if parts := strings.Fields(line); len(parts) > 0 {
			p.Ins = append(p.Ins, instruction(p, parts))
		}
	}
	p.Ins = append(p.Ins, api.Ins{Op: api.InExit})
	return p
}

func instruction(p api.Proc, parts []string) api.Ins {
	ins := api.Ins{Op: slices.Index(words, parts[0]), E: one()}
	if ins.Op < 0 {
		panic("no word: " + parts[0])
	}
	var numbers []int
	for _, part := range parts[1:] {
		switch {
		case part[0] == ':':
			ins.To = number(part[1:])
		case part[0] == 'x':
			ins.N = number(part[1:])
		case part[0] == 'e':
			ins.Args = append(ins.Args, api.Arg{E: one(), V: number(part[1:])})
		case ins.Op == api.InSpawn && len(numbers) > 0:
			ins.Args = append(ins.Args, api.Arg{V: number(part)})
		default:
			numbers = append(numbers, number(part))
		}
	}
	numbers = append(numbers, 0, 0)
	ins.A, ins.B = numbers[0], numbers[1]
	if ins.Op == api.InChan {
		ins.N, ins.T = max(ins.N, 1), p.Vars[ins.A].T[1:]
	}
	return ins
}

func one() []api.Push { return []api.Push{{Op: api.PushNum, N: 1}} }

func number(s string) int {
	n, err := strconv.Atoi(s)
	if err != nil {
		panic(err)
	}
	return n
}

func rep(s string, n int) string { return strings.Repeat(s, n) }

// lowered is a program's code.
func lowered(t *testing.T, src string) api.Code {
	t.Helper()
	p, f := syntax.Parse(src)
	if f.Code != 0 {
		t.Fatal(src, f)
	}
	c, f := lower.Lower(p)
	if f.Code != 0 {
		t.Fatal(src, f)
	}
	return c
}

// said is code in words, but the middle of a long one.
func said(c api.Code) string {
	var all []string
	for k, p := range c.Procs {
		all = append(all, fmt.Sprint("Proc ", k, " of "))
		for _, v := range p.Vars {
			all = append(all, v.T)
		}
		all = append(all, fmt.Sprint("with ", p.Params, ":"))
		for _, ins := range p.Ins {
			all = append(all, fmt.Sprint(ins.Op, " ", ins.A, " ", ins.B, " :", ins.To))
			for _, arg := range ins.Args {
				all = append(all, fmt.Sprint("arg ", len(arg.E), " ", arg.V))
			}
			all = append(all, ";")
		}
	}
	return short(strings.Join(all, " ") + fmt.Sprint(" Main ", c.Main))
}

func short(s string) string {
	if len(s) > 1600 {
		return s[:800] + " .. " + s[len(s)-800:]
	}
	return s
}

func shown(x any) string { return short(fmt.Sprint(x)) }

// told has a word for each wait: From>To, then its task, its instruction, Held
// and On: 2>4:1@0,0,1.
func told(waits []api.Wait) string {
	var all []string
	for _, w := range waits {
		all = append(all, fmt.Sprintf("%d>%d:%d@%d,%d,%d", w.From, w.To, w.Task, w.At, w.Held, w.On))
	}
	return strings.Join(all, " ")
}

// waitsOf asks for no fault, and for tree.Grow's tree.
func waitsOf(t *testing.T, c api.Code) []api.Wait {
	t.Helper()
	l, g, f := Waits(c)
	want, _ := tree.Grow(c)
	if f != fault(0, 0) || !reflect.DeepEqual(g, want) {
		t.Fatalf("Waits(%s): %s %v, want %s and no fault", said(c), shown(g), f, shown(want))
	}
	return l
}

func wantWaits(t *testing.T, c api.Code, want string) {
	t.Helper()
	want = strings.Join(strings.Fields(want), " ")
	if got := told(waitsOf(t, c)); got != want {
		t.Errorf("Waits(%s): %s, want %s", said(c), short(got), short(want))
	}
}

func judged(t *testing.T, c api.Code) api.Verdict {
	t.Helper()
	v, f := Judge(c)
	if f != fault(0, 0) {
		t.Fatalf("Judge(%s): %v, want no fault", said(c), f)
	}
	return v
}

// wantRanks asks that there is no round, too.
func wantRanks(t *testing.T, c api.Code, want ...int) {
	t.Helper()
	if v := judged(t, c); !slices.Equal(v.Ranks, want) || len(v.Round) != 0 {
		t.Errorf("Judge(%s): ranks %v and the round %s, want %v", said(c), v.Ranks, told(v.Round), want)
	}
}

// wantRound asks that there are no ranks, too.
func wantRound(t *testing.T, c api.Code, want string) {
	t.Helper()
	if v := judged(t, c); told(v.Round) != want || len(v.Ranks) != 0 {
		t.Errorf("Judge(%s): ranks %v and the round %s, want %s", said(c), v.Ranks, told(v.Round), want)
	}
}

// wantNotes has for each Proc its notes, rule@instruction,variable, and a /
// between Procs.
func wantNotes(t *testing.T, c api.Code, want string) {
	t.Helper()
	var procs []string
	for _, notes := range judged(t, c).Notes {
		var all []string
		for _, n := range notes {
			all = append(all, fmt.Sprintf("%d@%d,%d", n.Rule, n.At, n.Var))
		}
		procs = append(procs, strings.Join(all, " "))
	}
	if got := strings.Join(procs, " / "); got != want {
		t.Errorf("Judge(%s): notes %q, want %q", said(c), got, want)
	}
}

func wantNarrow(t *testing.T, c api.Code, want bool) {
	t.Helper()
	if is, f := Narrow(c); is != want || f != fault(0, 0) {
		t.Errorf("Narrow(%s): %v %v, want %v", said(c), is, f, want)
	}
}

func wantFine(t *testing.T, c api.Code, want bool) {
	t.Helper()
	if v := judged(t, c); Fine(v) != want {
		t.Errorf("Fine of %s: %v, want %v; %s", said(c), !want, want, shown(v))
	}
}

// twin is of its own memory; its lists have room behind their length, where
// what must not be looked at lies.
func twin[T any](x T) T { return copied(reflect.ValueOf(x)).Interface().(T) }

func copied(v reflect.Value) reflect.Value {
	out := reflect.New(v.Type()).Elem()
	switch v.Kind() {
	case reflect.Slice:
		if v.Len() == 0 {
			return out
		}
		out = reflect.MakeSlice(v.Type(), v.Len(), v.Len()+2)
		for i := range v.Len() {
			out.Index(i).Set(copied(v.Index(i)))
		}
	case reflect.Struct:
		for i := range v.NumField() {
			out.Field(i).Set(copied(v.Field(i)))
		}
	case reflect.String:
		out.SetString(strings.Clone(v.String()))
	default:
		out.Set(v)
	}
	return out
}

// changed is a copy with one thing changed.
func changed(c api.Code, do func(c *api.Code)) api.Code {
	c = twin(c)
	do(&c)
	return c
}

// inTime fails where a call does not end.
func inTime(t *testing.T, what string, do func()) {
	t.Helper()
	done := make(chan int)
	go func() {
		defer close(done)
		do()
	}()
	select {
	case <-done:
	case <-time.After(60 * time.Second):
		t.Fatalf("%s: it goes on and on", what)
	}
}
