package syntax

import (
	"reflect"
	"strings"
	"testing"

	"pipewright/api"
	"pipewright/token"
)

// sample has each kind of statement, else that stands and that doesn't, types
// of all ends, and all that expressions are made of.
const sample = `# a remark
stage copy(from1 recv int, to send int) {
	for x from from1 { send to x; }
	close to; drain from1;
}
stage none() { }
stage main(in recv int, out send recv int, n int) {
	let y = -n * (2 + 3) - 4 == (y);
	set y = y < 2;
	chan s r int 1;
	chan p q recv send int 999999999999999999;
	clone t s;
	send t y - 1; send t -y;
	spawn copy(in, s); spawn none(); spawn f((1), - -2, 3 * y);
	take z from r { emit z; } else { abandon r; }
	take z from r { if z { } else { set y = 0; } }
	repeat 3 { if y == 1 { repeat y { emit 1; } } }
	drain q;
}
`

func fault(code, at int) api.Fault { return api.Fault{Code: code, At: at} }

func short(src string) string {
	if len(src) > 200 {
		return src[:100] + " .. " + src[len(src)-100:]
	}
	return src
}

// bare makes lists without elements nil: they are one.
func bare(v reflect.Value) {
	switch v.Kind() {
	case reflect.Slice:
		if v.Len() == 0 {
			v.SetZero()
		}
		for i := range v.Len() {
			bare(v.Index(i))
		}
	case reflect.Struct:
		for i := range v.NumField() {
			bare(v.Field(i))
		}
	}
}

func alike(a, b api.Program) bool {
	bare(reflect.ValueOf(&a).Elem())
	bare(reflect.ValueOf(&b).Elem())
	return reflect.DeepEqual(a, b)
}

func parsed(t *testing.T, src string) api.Program {
	t.Helper()
	p, f := Parse(src)
	if f != fault(0, 0) {
		t.Fatalf("Parse(%q): %v, want no fault", short(src), f)
	}
	return p
}

func wantProgram(t *testing.T, src string, stages ...api.Stage) {
	t.Helper()
	p, f := Parse(src)
	if f != fault(0, 0) || !alike(p, api.Program{Stages: stages}) {
		t.Errorf("Parse(%q): %+v %v, want %+v and no fault", short(src), p, f, stages)
	}
}

// wantFault asks for no program, too: with a fault all else is zero.
func wantFault(t *testing.T, src string, want api.Fault) {
	t.Helper()
	p, f := Parse(src)
	if len(p.Stages) != 0 || f != want {
		t.Errorf("Parse(%q): %d stages %v, want none and %v", short(src), len(p.Stages), f, want)
	}
}

// wantAtMark takes the place out of the text: where the first @ stands.
func wantAtMark(t *testing.T, marked string, code int) {
	t.Helper()
	wantFault(t, strings.Replace(marked, "@", "", 1), fault(code, strings.IndexByte(marked, '@')))
}

// stage wraps statements, with bodyAt bytes ahead of them.
func stage(stmts string) string { return "stage a() {" + stmts + "}" }

const bodyAt = len("stage a() {")

// wantStmt tells At of its statements from the first one's place.
func wantStmt(t *testing.T, src string, stmts ...api.Stmt) {
	t.Helper()
	wantProgram(t, stage(src), api.Stage{Name: "a", Body: further(stmts, bodyAt)})
}

func further(block []api.Stmt, by int) []api.Stmt {
	var out []api.Stmt
	for _, s := range block {
		s.At += by
		s.Body, s.Else = further(s.Body, by), further(s.Else, by)
		out = append(out, s)
	}
	return out
}

func num(n int64) api.Expr        { return api.Expr{Op: api.OpNum, N: n} }
func name(s string) api.Expr      { return api.Expr{Op: api.OpName, Name: s} }
func neg(x api.Expr) api.Expr     { return op(api.OpNeg, x) }
func es(l ...api.Expr) []api.Expr { return l }

func op(op int, l ...api.Expr) api.Expr { return api.Expr{Op: op, L: l} }

// texts gives the tokens of a text, each as its text.
func texts(t *testing.T, src string) []string {
	t.Helper()
	tokens, f := token.Scan(src)
	if f.Code != 0 {
		t.Fatalf("Scan(%q): %v", short(src), f)
	}
	var out []string
	for _, tok := range tokens {
		out = append(out, tok.Text)
	}
	return out
}
