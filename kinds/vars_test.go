package kinds

import (
	"testing"

	"pipewright/api"
)

// P5.1 and P5.2: each kind of statement, and what it binds.
func TestVarsOfEachKind(t *testing.T) {
	for _, c := range []struct{ stmts, want string }{
		{"", ""},
		{"let x = 1;", "x i"},
		{"let x = (-(1 + 2) * 3 < 4) == 5;", "x i"},
		{"let x = 1; set x = x + 1;", "x i"},
		{"emit 1;", ""},
		{"chan a b int 1;", "a si, b ri"},
		{"chan b a int 1;", "b si, a ri"},
		{"chan s r send int 1;", "s ssi, r rsi"},
		{"chan s r recv int 1;", "s sri, r rri"},
		{"chan s r send recv int 5;", "s ssri, r rsri"},
		{"chan s r int 1; clone t s;", "s si, r ri, t si"},
		{"chan s r recv int 1; clone t s; clone u t;", "s sri, r rri, t sri, u sri"},
		{"chan s r int 1; send s 1;", "s si, r ri"},
		{"chan s r int 1; close s; abandon r;", "s si, r ri"},
		{"chan s r recv send int 1; close s; drain r;", "s srsi, r rrsi"},
		{"drain in;", ""},
		{"abandon in;", ""},
		{"spawn none();", ""},
		{"spawn f(1);", ""},
		{"take x from in { }", "x i"},
		{"take x from in { } else { }", "x i"},
		{"for x from in { }", "x i"},
		{"chan s r send recv int 1; take x from r { }", "s ssri, r rsri, x sri"},
		{"chan s r send recv int 1; for x from r { }", "s ssri, r rsri, x sri"},
		{"chan s r recv recv int 1; take x from r { take y from x { take z from y { emit z; } } }", "s srri, r rrri, x rri, y ri, z i"},
		{"repeat 3 { }", ""},
		{"repeat 3 { let x = 1; }", "x i"},
		{"if 1 { }", ""},
		{"if 1 { let x = 1; } else { let y = 2; }", "x i, y i"},
	} {
		wantBound(t, c.stmts, c.want)
	}
}

// P5.2: parameters, then as the statements stand.
func TestVarsInOrder(t *testing.T) {
	wantBound(t, `
		let z = 1;
		take y from in {
			let x = y;
			if x { chan w v int 1; } else { let u = z; }
			let tt = x;
		} else {
			let s = z;
		}
		for r from in { let q = r; }
		let p = z;
		repeat p { let o = p; }
		chan n m int 2;
		clone l n;
		for k from m { }`,
		"z i, y i, x i, w si, v ri, u i, tt i, s i, r i, q i, p i, o i, n si, m ri, l si, k i")
	wantVars(t, `
		stage z() { let b = 1; let a = 2; }
		stage y(c int, b send int, a recv recv send int) { }
		stage main(d recv int) { chan c b int 1; let a = 1; }
		stage x(b int) { let d = 1; let a = 2; let c = 3; }`,
		"b i, a i",
		"c i, b si, a rrsi",
		"d ri, c si, b ri, a i",
		"b i, d i, a i, c i")
}

// P5.2: of a stage that binds nothing too there is a list.
func TestVarsOfNothing(t *testing.T) {
	wantVars(t, "stage a() { } stage main(in recv int) { } stage b() { emit 1; }", "", "in ri", "")
	p := stages(api.Stage{Name: "a", Params: []api.Param{}, Body: []api.Stmt{}}, stageOf("main", in()))
	if got := right(t, p); len(got[0]) != 0 || said(got[1]) != "in ri" {
		t.Errorf("Vars: %v", got)
	}
}

// P5.1: parameters of all types, each of which is used as it may be.
func TestVarsOfParameters(t *testing.T) {
	wantVars(t, `
		stage b(s send int, n int) { send s n; }
		stage a(i int, s send int, r recv int, ss send send int, sr send recv int, rs recv send int) {
			set i = i;
			send s i; clone c s; close s;
			drain r;
			send ss c;
			chan t u int 1;
			send sr u;
			take x from rs { send x 1; close x; }
			spawn b(t, 5);
		}
		stage main(in recv int) { }`,
		"s si, n i",
		"i i, s si, r ri, ss ssi, sr sri, rs rsi, c si, t si, u ri, x si",
		"in ri")
}

// The chapter's examples.
func TestExamples(t *testing.T) {
	wantText(t, lay("take x from in { } emit x;"), api.ErrNone, 1)
	wantText(t, lay("for in from in { }"), api.ErrTwice, 0)
	wantText(t, lay("send in 1;"), api.ErrType, 0)
	wantBound(t, "chan s r recv int 1; send s in;", "s sri, r rri")
}
