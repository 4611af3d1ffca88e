package kinds

import (
	"fmt"
	"reflect"
	"strings"
	"testing"

	"pipewright/api"
	"pipewright/syntax"
)

func fault(code, at int) api.Fault { return api.Fault{Code: code, At: at} }

func num(n int64) api.Expr              { return api.Expr{Op: api.OpNum, N: n} }
func name(s string) api.Expr            { return api.Expr{Op: api.OpName, Name: s} }
func op(op int, l ...api.Expr) api.Expr { return api.Expr{Op: op, L: l} }
func es(l ...api.Expr) []api.Expr       { return l }

func let(a string) api.Stmt    { return api.Stmt{Do: api.DoLet, A: a, E: es(num(1))} }
func emit(x api.Expr) api.Stmt { return api.Stmt{Do: api.DoEmit, E: es(x)} }

func stages(l ...api.Stage) api.Program { return api.Program{Stages: l} }

func stageOf(name string, params []api.Param, body ...api.Stmt) api.Stage {
	return api.Stage{Name: name, Params: params, Body: body}
}

func in() []api.Param { return []api.Param{{Name: "in", T: "ri"}} }

func rep(s string, n int) string { return strings.Repeat(s, n) }

func short(s string) string {
	if len(s) > 400 {
		return s[:200] + " .. " + s[len(s)-200:]
	}
	return s
}

func shown(p api.Program) string { return short(fmt.Sprint(p)) }

func parsed(t *testing.T, src string) api.Program {
	t.Helper()
	p, f := syntax.Parse(src)
	if f != fault(0, 0) {
		t.Fatalf("Parse(%q): %v", short(src), f)
	}
	return p
}

// above are stages to be spawned, without statements: those of the next stage
// are numbered from 0 on.
const above = "stage none() { } stage f(a int) { } stage g(a int, b recv int, c send recv int) { } "

const mainAt = -2 - 3

func lay(stmts string) string {
	return above + "stage main(in recv int) { " + stmts + " }"
}

func wantFault(t *testing.T, p api.Program, code, at int) {
	t.Helper()
	if got := Check(p); got != fault(code, at) {
		t.Errorf("Check(%s): %v, want %v", shown(p), got, fault(code, at))
	}
	if vars, got := Vars(p); len(vars) != 0 || got != fault(code, at) {
		t.Errorf("Vars(%s): %v %v, want nothing and %v", shown(p), vars, got, fault(code, at))
	}
}

// wantText asks of a text's program for a fault, or for none (the code 0).
func wantText(t *testing.T, src string, code, at int) {
	t.Helper()
	p := parsed(t, src)
	if got := Check(p); got != fault(code, at) {
		t.Errorf("Check(%q): %v, want %v", short(src), got, fault(code, at))
	} else if code != 0 {
		wantFault(t, p, code, at)
	} else {
		right(t, p)
	}
}

func right(t *testing.T, p api.Program) [][]api.Var {
	t.Helper()
	if got := Check(p); got != fault(0, 0) {
		t.Fatalf("Check(%s): %v, want no fault", shown(p), got)
	}
	vars, got := Vars(p)
	if got != fault(0, 0) || len(vars) != len(p.Stages) {
		t.Fatalf("Vars(%s): %v %v, want %d lists and no fault", shown(p), vars, got, len(p.Stages))
	}
	return vars
}

// said lays what a stage binds in one line: "in ri, x i".
func said(vars []api.Var) string {
	var all []string
	for _, v := range vars {
		all = append(all, v.Name+" "+v.T)
	}
	return strings.Join(all, ", ")
}

// wantVars has a line for each stage.
func wantVars(t *testing.T, src string, want ...string) {
	t.Helper()
	var got []string
	for _, vars := range right(t, parsed(t, src)) {
		got = append(got, said(vars))
	}
	if !reflect.DeepEqual(got, want) {
		t.Errorf("Vars(%q): %q, want %q", short(src), got, want)
	}
}

// wantBound asks what main binds behind its parameter.
func wantBound(t *testing.T, stmts, want string) {
	t.Helper()
	all := right(t, parsed(t, lay(stmts)))
	if got := strings.TrimPrefix(said(all[3]), "in ri"); strings.TrimPrefix(got, ", ") != want {
		t.Errorf("Vars of %q: %q, want %q", short(stmts), got, want)
	}
}

// twin is a program of its own memory; its lists have room behind their
// length, where what must not be looked at lies.
func twin(p api.Program) api.Program {
	return copied(reflect.ValueOf(p)).Interface().(api.Program)
}

func copied(v reflect.Value) reflect.Value {
	out := reflect.New(v.Type()).Elem()
	switch v.Kind() {
	case reflect.Slice:
		if v.Len() == 0 {
			return out
		}
		out = reflect.MakeSlice(v.Type(), v.Len(), v.Len()+2)
		for i := range v.Len() {
			out.Index(i).Set(copied(v.Index(i)))
		}
	case reflect.Struct:
		for i := range v.NumField() {
			out.Field(i).Set(copied(v.Field(i)))
		}
	default:
		out.Set(v)
	}
	return out
}

// stmtsOf gives the statements by their numbers.
func stmtsOf(p *api.Program) []*api.Stmt {
	var all []*api.Stmt
	for i := range p.Stages {
		all = append(all, stmtsIn(p.Stages[i].Body)...)
	}
	return all
}

func stmtsIn(body []api.Stmt) []*api.Stmt {
	var all []*api.Stmt
	for i := range body {
		all = append(all, &body[i])
		all = append(all, stmtsIn(body[i].Body)...)
		all = append(all, stmtsIn(body[i].Else)...)
	}
	return all
}

// partsOf gives an expression's parts, each ahead of those within it.
func partsOf(x *api.Expr) []*api.Expr {
	all := []*api.Expr{x}
	for i := range x.L {
		all = append(all, partsOf(&x.L[i])...)
	}
	return all
}
