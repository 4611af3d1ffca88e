package bound

import (
	"fmt"
	"math"
	"reflect"
	"slices"
	"strconv"
	"strings"
	"testing"
	"time"

	"pipewright/api"
	"pipewright/lower"
	"pipewright/syntax"
)

// words of the Ops, each at its number.
var words = strings.Fields("none let emit chan clone send give close abandon drain spawn take turns count if jump over exit")

// kinds of blocks, each at its number.
var kinds = strings.Fields("none body for then else repeat")

// wild are numbers that nothing has.
var wild = []int{math.MinInt64, -1 << 32, -2, -1, 1 << 32, math.MaxInt64}

// allTypes are those that a variable may have.
var allTypes = strings.Fields("i si ri ssi sri rsi rri sssi ssri srsi srri rssi rsri rrsi rrri")

func fault(code, at int) api.Fault { return api.Fault{Code: code, At: at} }

// code has the last Proc for Main.
func code(procs ...api.Proc) api.Code { return api.Code{Procs: procs, Main: len(procs) - 1} }

// proc makes a Proc that may be run: its variables' types, how many of them are
// parameters, its blocks behind the first one, and instructions, InExit behind
// them. Blocks: "then 0" has the Parent 0, "for 0 2" A 2, "repeat 0 2" N 2, too.
// Instructions: "take 1 0 :3" has A 1, B 0 and To 3; "send 1 @2" stands in the
// block 2, "count 1 @2 %3" has the Loop 3, too; of a spawn the first number is
// the stage, the others the V of its Args, "e1" is one that has an E, and V 1.
func proc(types string, params int, blocks, said string) api.Proc {
	p := api.Proc{Params: params, Blocks: []api.Block{{Kind: api.BlockBody}}}
	for k, t := range strings.Fields(types) {
		p.Vars = append(p.Vars, api.Var{Name: "v" + strconv.Itoa(k), T: t})
	}
	for line := range strings.SplitSeq(blocks, ";") {
		if parts := strings.Fields(line); len(parts) > 0 {
			p.Blocks = append(p.Blocks, block(parts))
		}
	}
	for line := range strings.SplitSeq(said, ";") {
		if parts := strings.Fields(line); len(parts) > 0 {
			p.Ins = append(p.Ins, instruction(p, parts))
		}
	}
	p.Ins = append(p.Ins, api.Ins{Op: api.InExit})
	return p
}

func block(parts []string) api.Block {
	b := api.Block{Kind: slices.Index(kinds, parts[0]), Parent: number(parts[1])}
	switch b.Kind {
	case api.BlockFor:
		b.A = number(parts[2])
	case api.BlockRepeat:
		b.N = number(parts[2])
	}
	return b
}

func instruction(p api.Proc, parts []string) api.Ins {
	ins := api.Ins{Op: slices.Index(words, parts[0]), E: one()}
	if ins.Op < 0 {
		panic("no word: " + parts[0])
	}
	var numbers []int
	for _, part := range parts[1:] {
		switch {
		case part[0] == ':':
			ins.To = number(part[1:])
		case part[0] == '@':
			ins.Block = number(part[1:])
		case part[0] == '%':
			ins.Loop = number(part[1:])
		case part[0] == 'e':
			ins.Args = append(ins.Args, api.Arg{E: one(), V: number(part[1:])})
		case ins.Op == api.InSpawn && len(numbers) > 0:
			ins.Args = append(ins.Args, api.Arg{V: number(part)})
		default:
			numbers = append(numbers, number(part))
		}
	}
	numbers = append(numbers, 0, 0)
	ins.A, ins.B = numbers[0], numbers[1]
	if ins.Op == api.InChan {
		ins.N, ins.T = 1, p.Vars[ins.A].T[1:]
	}
	return ins
}

func one() []api.Push { return []api.Push{{Op: api.PushNum, N: 1}} }

func number(s string) int {
	n, err := strconv.Atoi(s)
	if err != nil {
		panic(err)
	}
	return n
}

func rep(s string, n int) string { return strings.Repeat(s, n) }

// lowered is a program's code.
func lowered(t *testing.T, src string) api.Code {
	t.Helper()
	p, f := syntax.Parse(src)
	if f.Code != 0 {
		t.Fatal(src, f)
	}
	c, f := lower.Lower(p)
	if f.Code != 0 {
		t.Fatal(src, f)
	}
	return c
}

// mainOf is a program of the stage main alone.
func mainOf(t *testing.T, body string) api.Code {
	t.Helper()
	return lowered(t, "stage main(in recv int) { "+body+" }")
}

// said is code in words, but the middle of a long one.
func said(c api.Code) string {
	var all []string
	for k, p := range c.Procs {
		all = append(all, fmt.Sprint("Proc ", k, " of "))
		for _, v := range p.Vars {
			all = append(all, v.T)
		}
		all = append(all, fmt.Sprint("with ", p.Params, ", blocks ", p.Blocks, ":"))
		for _, ins := range p.Ins {
			all = append(all, fmt.Sprint(ins.Op, " ", ins.A, " ", ins.B, " @", ins.Block, " %", ins.Loop))
			for _, arg := range ins.Args {
				all = append(all, fmt.Sprint("arg ", len(arg.E), " ", arg.V))
			}
			all = append(all, ";")
		}
	}
	return short(strings.Join(all, " ") + fmt.Sprint(" Main ", c.Main))
}

func short(s string) string {
	if len(s) > 2400 {
		return s[:1200] + " .. " + s[len(s)-1200:]
	}
	return s
}

func shown(x any) string { return short(fmt.Sprint(x)) }

func stepsOf(t *testing.T, c api.Code, inputs int) int {
	t.Helper()
	n, f := Steps(c, inputs)
	if f != fault(0, 0) {
		t.Fatalf("Steps(%s, %d): %v, want no fault", said(c), inputs, f)
	}
	return n
}

func thingsOf(t *testing.T, c api.Code, inputs int) []int {
	t.Helper()
	l, f := Things(c, inputs)
	if f != fault(0, 0) {
		t.Fatalf("Things(%s, %d): %v, want no fault", said(c), inputs, f)
	}
	return l
}

func wantSteps(t *testing.T, c api.Code, inputs, want int) {
	t.Helper()
	if n := stepsOf(t, c, inputs); n != want {
		t.Errorf("Steps(%s, %d): %d, want %d", said(c), inputs, n, want)
	}
}

func wantThings(t *testing.T, c api.Code, inputs int, want ...int) {
	t.Helper()
	if l := thingsOf(t, c, inputs); !slices.Equal(l, want) {
		t.Errorf("Things(%s, %d): %v, want %v", said(c), inputs, l, want)
	}
}

// wantPasses asks for E of each block of a stage, of all its tasks together, by
// how many steps an instruction more in that block makes. (Not for such as are
// near Cap.)
func wantPasses(t *testing.T, c api.Code, stage, inputs int, want ...int) {
	t.Helper()
	var got []int
	for number := range c.Procs[stage].Blocks {
		more := changed(c, func(c *api.Code) {
			p := &c.Procs[stage]
			p.Ins = slices.Insert(p.Ins, len(p.Ins)-1, api.Ins{Op: api.InEmit, E: one(), Block: number})
		})
		got = append(got, stepsOf(t, more, inputs)-stepsOf(t, c, inputs))
	}
	if !slices.Equal(got, want) {
		t.Errorf("the stage %d of %s with %d: its blocks are gone through %v times, want %v", stage, said(c), inputs, got, want)
	}
}

// twin is of its own memory; its lists have room behind their length, where
// what must not be looked at lies.
func twin[T any](x T) T { return copied(reflect.ValueOf(x)).Interface().(T) }

func copied(v reflect.Value) reflect.Value {
	out := reflect.New(v.Type()).Elem()
	switch v.Kind() {
	case reflect.Slice:
		if v.Len() == 0 {
			return out
		}
		out = reflect.MakeSlice(v.Type(), v.Len(), v.Len()+2)
		for i := range v.Len() {
			out.Index(i).Set(copied(v.Index(i)))
		}
	case reflect.Struct:
		for i := range v.NumField() {
			out.Field(i).Set(copied(v.Field(i)))
		}
	case reflect.String:
		out.SetString(strings.Clone(v.String()))
	default:
		out.Set(v)
	}
	return out
}

// changed is a copy with one thing changed.
func changed(c api.Code, do func(c *api.Code)) api.Code {
	c = twin(c)
	do(&c)
	return c
}

// inTime fails where a call does not end.
func inTime(t *testing.T, what string, do func()) {
	t.Helper()
	done := make(chan int)
	go func() {
		defer close(done)
		do()
	}()
	select {
	case <-done:
	case <-time.After(60 * time.Second):
		t.Fatalf("%s: it goes on and on", what)
	}
}
