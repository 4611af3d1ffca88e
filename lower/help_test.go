package lower

import (
	"fmt"
	"reflect"
	"regexp"
	"strings"
	"testing"

	"pipewright/api"
	"pipewright/syntax"
)

func fault(code, at int) api.Fault { return api.Fault{Code: code, At: at} }

func num(n int64) api.Expr              { return api.Expr{Op: api.OpNum, N: n} }
func name(s string) api.Expr            { return api.Expr{Op: api.OpName, Name: s} }
func op(op int, l ...api.Expr) api.Expr { return api.Expr{Op: op, L: l} }
func es(l ...api.Expr) []api.Expr       { return l }

func rep(s string, n int) string { return strings.Repeat(s, n) }

func short(s string) string {
	if len(s) > 400 {
		return s[:200] + " .. " + s[len(s)-200:]
	}
	return s
}

func shown(x any) string { return short(fmt.Sprint(x)) }

func parsed(t *testing.T, src string) api.Program {
	t.Helper()
	p, f := syntax.Parse(src)
	if f != fault(0, 0) {
		t.Fatalf("Parse(%q): %v", short(src), f)
	}
	return p
}

// lowered asks, too, that what comes may be run.
func lowered(t *testing.T, src string) api.Code {
	t.Helper()
	return right(t, parsed(t, src))
}

func right(t *testing.T, p api.Program) api.Code {
	t.Helper()
	c, f := Lower(p)
	if f != fault(0, 0) || len(c.Procs) != len(p.Stages) {
		t.Fatalf("Lower(%s): %d Procs and %v, want no fault", shown(p), len(c.Procs), f)
	}
	wantCode(t, c, 0, 0)
	return c
}

func wantCode(t *testing.T, c api.Code, code, at int) {
	t.Helper()
	if got := Check(c); got != fault(code, at) {
		t.Errorf("Check(%s): %v, want %v", shown(c), got, fault(code, at))
	}
}

var ops = strings.Fields("none let emit chan clone send give close abandon drain spawn take turns count if jump over exit")

var kindsOfBlocks = strings.Fields("none body for then else repeat")

// toldSteps lays an expression's steps in one line: "v1 2 +".
func toldSteps(steps []api.Push) string {
	var all []string
	for _, s := range steps {
		switch {
		case s.Op == api.PushNum:
			all = append(all, fmt.Sprint(s.N))
		case s.Op == api.PushVar:
			all = append(all, fmt.Sprint("v", s.N))
		case s.Op < 0 || s.Op > api.PushEq || s.N != 0:
			all = append(all, fmt.Sprint(s))
		default:
			all = append(all, strings.Fields("? ? ? neg + - * < ==")[s.Op])
		}
	}
	return strings.Join(all, " ")
}

// toldIns names just those fields that are not zero, At apart.
func toldIns(ins api.Ins) string {
	out := ops[ins.Op]
	field := func(name string, n int) {
		if n != 0 {
			out += fmt.Sprint(" ", name, n)
		}
	}
	field("A", ins.A)
	field("B", ins.B)
	field("N", ins.N)
	if ins.T != "" {
		out += " " + ins.T
	}
	if len(ins.E) > 0 {
		out += " (" + toldSteps(ins.E) + ")"
	}
	for _, arg := range ins.Args {
		if len(arg.E) > 0 {
			out += " arg(" + toldSteps(arg.E) + ")"
		}
		if len(arg.E) == 0 || arg.V != 0 {
			out += fmt.Sprint(" arg", arg.V)
		}
	}
	field("To", ins.To)
	field("Block", ins.Block)
	field("Loop", ins.Loop)
	return out
}

// atWord tells the word at a place, and which one of those like it it is:
// "@for", "@for2".
func atWord(src string, at int) string {
	if at < 0 || at >= len(src) {
		return fmt.Sprint("@", at)
	}
	word := regexp.MustCompile(`^[a-z0-9]*`).FindString(src[at:])
	ahead := len(regexp.MustCompile(`\b`+word+`\b`).FindAllString(src[:at], -1))
	if ahead == 0 {
		return "@" + word
	}
	return fmt.Sprint("@", word, ahead+1)
}

// toldProc has a line for each instruction, with the word that it comes from.
func toldProc(src string, p api.Proc) string {
	out := ""
	for i, ins := range p.Ins {
		out += fmt.Sprint(i, " ", toldIns(ins), " ", atWord(src, ins.At), "\n")
	}
	return out
}

func toldVars(p api.Proc) string {
	var all []string
	for _, v := range p.Vars {
		all = append(all, strings.TrimSpace(v.Name+" "+v.T))
	}
	return strings.Join(all, ", ")
}

func toldBlocks(p api.Proc) string {
	var all []string
	for _, b := range p.Blocks {
		out := kindsOfBlocks[b.Kind]
		for i, n := range []int{b.Parent, b.A, b.N} {
			if n != 0 {
				out += fmt.Sprint(" ", strings.Fields("in A N")[i], n)
			}
		}
		all = append(all, out)
	}
	return strings.Join(all, ", ")
}

// lines takes off what only lays a text out.
func lines(s string) string {
	var all []string
	for _, line := range strings.Split(strings.TrimSpace(s), "\n") {
		all = append(all, strings.TrimSpace(line))
	}
	return strings.Join(all, "\n") + "\n"
}

// wantProc asks for the last stage of a text: its variables, its blocks and its
// instructions, each of them in a line of its own.
func wantProc(t *testing.T, src, vars, blocks, ins string) {
	t.Helper()
	c := lowered(t, src)
	p := c.Procs[len(c.Procs)-1]
	if got := toldVars(p); got != vars {
		t.Errorf("variables of %q: %q, want %q", src, got, vars)
	}
	if got := toldBlocks(p); got != blocks {
		t.Errorf("blocks of %q: %q, want %q", src, got, blocks)
	}
	if got := toldProc(src, p); got != lines(ins) {
		t.Errorf("instructions of %q:\n%swant\n%s", src, got, lines(ins))
	}
}

// above are stages to be spawned.
const above = "stage none() { } stage f(a int) { } stage g(a int, b recv int, c send recv int, d int) { } "

// wantMain asks for the stage main with these statements; above stand ahead.
func wantMain(t *testing.T, stmts, vars, blocks, ins string) {
	t.Helper()
	wantProc(t, above+"stage main(in recv int) { "+stmts+" }", vars, blocks, ins)
}

// twin is of its own memory; its lists have room behind their length, where
// what must not be looked at lies.
func twin[T any](x T) T { return copied(reflect.ValueOf(x)).Interface().(T) }

func copied(v reflect.Value) reflect.Value {
	out := reflect.New(v.Type()).Elem()
	switch v.Kind() {
	case reflect.Slice:
		if v.Len() == 0 {
			return out
		}
		out = reflect.MakeSlice(v.Type(), v.Len(), v.Len()+2)
		for i := range v.Len() {
			out.Index(i).Set(copied(v.Index(i)))
		}
	case reflect.Struct:
		for i := range v.NumField() {
			out.Field(i).Set(copied(v.Field(i)))
		}
	default:
		out.Set(v)
	}
	return out
}

// sameCode takes lists without elements for one.
func sameCode(a, b api.Code) bool {
	return fmt.Sprintf("%+v", a) == fmt.Sprintf("%+v", b)
}

// stmtsOf gives the statements by their numbers.
func stmtsOf(p *api.Program) []*api.Stmt {
	var all []*api.Stmt
	for i := range p.Stages {
		all = append(all, stmtsIn(p.Stages[i].Body)...)
	}
	return all
}

func stmtsIn(body []api.Stmt) []*api.Stmt {
	var all []*api.Stmt
	for i := range body {
		all = append(all, &body[i])
		all = append(all, stmtsIn(body[i].Body)...)
		all = append(all, stmtsIn(body[i].Else)...)
	}
	return all
}

// partsOf gives an expression's parts, each ahead of those within it.
func partsOf(x *api.Expr) []*api.Expr {
	all := []*api.Expr{x}
	for i := range x.L {
		all = append(all, partsOf(&x.L[i])...)
	}
	return all
}
