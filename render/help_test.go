package render

import (
	"fmt"
	"reflect"
	"strings"
	"testing"

	"pipewright/api"
	"pipewright/syntax"
)

func fault(code, at int) api.Fault { return api.Fault{Code: code, At: at} }

func num(n int64) api.Expr              { return api.Expr{Op: api.OpNum, N: n} }
func name(s string) api.Expr            { return api.Expr{Op: api.OpName, Name: s} }
func neg(x api.Expr) api.Expr           { return op(api.OpNeg, x) }
func op(op int, l ...api.Expr) api.Expr { return api.Expr{Op: op, L: l} }
func es(l ...api.Expr) []api.Expr       { return l }

func emit(x api.Expr) api.Stmt { return api.Stmt{Do: api.DoEmit, E: es(x)} }

func emits(n int) []api.Stmt {
	var body []api.Stmt
	for range n {
		body = append(body, emit(num(1)))
	}
	return body
}

func negs(n int, x api.Expr) api.Expr {
	for range n {
		x = neg(x)
	}
	return x
}

func stages(l ...api.Stage) api.Program { return api.Program{Stages: l} }

func body(l ...api.Stmt) api.Program { return stages(api.Stage{Name: "a", Body: l}) }

// within lays a statement into so many blocks, the stage's among them.
func within(blocks int, s api.Stmt) api.Program {
	for range blocks - 1 {
		s = api.Stmt{Do: api.DoIf, E: es(num(1)), Body: []api.Stmt{s}}
	}
	return body(s)
}

func rep(s string, n int) string { return strings.Repeat(s, n) }

func short(s string) string {
	if len(s) > 400 {
		return s[:200] + " .. " + s[len(s)-200:]
	}
	return s
}

func shown(p api.Program) string { return short(fmt.Sprint(p)) }

func wantFault(t *testing.T, p api.Program, code, at int) {
	t.Helper()
	if got := Check(p); got != fault(code, at) {
		t.Errorf("Check(%s): %v, want %v", shown(p), got, fault(code, at))
	}
	if text, got := Print(p); text != "" || got != fault(code, at) {
		t.Errorf("Print(%s): %q %v, want no text and %v", shown(p), short(text), got, fault(code, at))
	}
}

// printed asks for no fault, and that the text says the program once more.
func printed(t *testing.T, p api.Program) string {
	t.Helper()
	if got := Check(p); got != fault(0, 0) {
		t.Fatalf("Check(%s): %v, want no fault", shown(p), got)
	}
	text, got := Print(p)
	if got != fault(0, 0) {
		t.Fatalf("Print(%s): %v, want no fault", shown(p), got)
	}
	if back, f := syntax.Parse(text); f != fault(0, 0) || !syntax.Same(back, p) {
		t.Fatalf("Parse(%q): %v, %s, want %s", short(text), f, shown(back), shown(p))
	}
	return text
}

func wantText(t *testing.T, p api.Program, want string) {
	t.Helper()
	if got := printed(t, p); got != want {
		t.Errorf("Print(%s):\n%q, want\n%q", shown(p), short(got), short(want))
	}
}

func wantStmt(t *testing.T, s api.Stmt, want string) {
	t.Helper()
	wantText(t, body(s), "stage a() {\n"+want+"}\n")
}

func wantExpr(t *testing.T, x api.Expr, want string) {
	t.Helper()
	wantStmt(t, emit(x), "\temit "+want+";\n")
}

// twin is a program of its own memory; its lists have room behind their
// length, where what must not be looked at lies.
func twin(p api.Program) api.Program {
	return copied(reflect.ValueOf(p)).Interface().(api.Program)
}

func copied(v reflect.Value) reflect.Value {
	out := reflect.New(v.Type()).Elem()
	switch v.Kind() {
	case reflect.Slice:
		if v.Len() == 0 {
			return out
		}
		out = reflect.MakeSlice(v.Type(), v.Len(), v.Len()+2)
		for i := range v.Len() {
			out.Index(i).Set(copied(v.Index(i)))
		}
	case reflect.Struct:
		for i := range v.NumField() {
			out.Field(i).Set(copied(v.Field(i)))
		}
	default:
		out.Set(v)
	}
	return out
}

// stmtsOf gives the statements by their numbers.
func stmtsOf(p *api.Program) []*api.Stmt {
	var all []*api.Stmt
	var into func(body []api.Stmt)
	into = func(body []api.Stmt) {
		for i := range body {
			all = append(all, &body[i])
			into(body[i].Body)
			into(body[i].Else)
		}
	}
	for i := range p.Stages {
		into(p.Stages[i].Body)
	}
	return all
}

// partsOf gives an expression's parts, each ahead of those within it.
func partsOf(x *api.Expr) []*api.Expr {
	all := []*api.Expr{x}
	for i := range x.L {
		all = append(all, partsOf(&x.L[i])...)
	}
	return all
}
