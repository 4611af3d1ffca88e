package kinds

import (
	"fmt"
	"strings"
	"testing"

	"pipewright/api"
)

func lets(from, n int) string {
	out := ""
	for i := range n {
		out += fmt.Sprintf("let v%d = 1; ", from+i)
	}
	return out
}

// P5.1: just MaxVars names are fine, and one more is ErrMany at the stage,
// whatever binds them.
func TestMaxVars(t *testing.T) {
	const behind = " stage below() { }"
	for _, c := range []struct {
		stmts string
		binds int
	}{
		{"", 0},
		{"chan s r int 1; ", 2},
		{"chan s r int 1; clone u s; ", 3},
		{"take x from in { } ", 1},
		{"take x from in { } else { } ", 1},
		{"for x from in { } ", 1},
		{"take x from in { let y = x; } else { let z = 1; } ", 3},
		{"for x from in { let y = x; } repeat 1 { let z = 1; let w = 2; } ", 4},
		{"if 1 { if 2 { if 3 { chan s r int 1; } } else { let w = 1; } } ", 3},
		{"repeat 1 { " + lets(100, 20) + "} ", 20},
		{"repeat 1 { " + lets(100, 15) + "} if 1 { } else { " + lets(200, 14) + "} ", 29},
		{"let q = 1; set q = 2; set q = 3; emit q; repeat q { set q = 4; } ", 1},
	} {
		left := api.MaxVars - 1 - c.binds
		for _, stmts := range []string{c.stmts + lets(0, left), lets(0, left) + c.stmts} {
			if got := right(t, parsed(t, lay(stmts)+behind)); len(got[3]) != api.MaxVars {
				t.Errorf("%d names", len(got[3]))
			}
			wantText(t, lay(stmts+"if 1 { let more = 1; }")+behind, api.ErrMany, mainAt)
			wantText(t, lay("let more = 1; "+stmts)+behind, api.ErrMany, mainAt)
			wantText(t, lay("let more = 1; chan ss rr int 1; "+stmts)+behind, api.ErrMany, mainAt)
		}
	}
	wantText(t, lay(lets(0, 29)), 0, 0)
	wantText(t, lay(lets(0, 28)+"chan s r int 1;"), api.ErrMany, mainAt)
	wantText(t, lay(lets(0, api.MaxStmts)), api.ErrMany, mainAt)
}

// P5.1: parameters count among the names.
func TestMaxVarsOfParameters(t *testing.T) {
	var params []string
	for n := range api.MaxParams + 1 {
		if n > 0 {
			params = append(params, fmt.Sprintf("p%d int", n))
		}
		head := "stage main(in recv int) { " + lets(0, 29) + "} stage a(" + strings.Join(params, ", ") + ") { "
		wantText(t, head+lets(0, api.MaxVars-n)+"}", 0, 0)
		wantText(t, head+lets(0, api.MaxVars-n+1)+"}", api.ErrMany, -3)
		wantText(t, head+lets(0, api.MaxVars-n+1)+"} stage b() { }", api.ErrMany, -3)
	}
}

// P5.1: ErrMany stands behind the stage's statements, and ahead of all that
// comes behind it.
func TestMaxVarsInOrder(t *testing.T) {
	many := lets(0, 30)
	wantText(t, lay(many+"emit x;"), api.ErrNone, 30)
	wantText(t, lay(many+"let v7 = 1;"), api.ErrTwice, 30)
	wantText(t, lay(many+"if 1 { } else { chan s r int 6; }"), api.ErrRange, 31)
	wantText(t, lay(many)+" stage main() { }", api.ErrMany, mainAt)
	wantText(t, lay(many)+" stage b(x int, x int) { }", api.ErrMany, mainAt)
	wantText(t, lay(many)+" stage b() { emit x; }", api.ErrMany, mainAt)
	wantText(t, lay(many)+" stage b() { "+lets(0, 31)+" }", api.ErrMany, mainAt)
	wantText(t, "stage a() { emit x; } "+lay(many), api.ErrNone, 0)
	wantText(t, "stage a() { "+lets(0, 31)+"}", api.ErrMany, -2)
	wantText(t, "stage a() { "+lets(0, 31)+"} stage b() { "+lets(0, 31)+"}", api.ErrMany, -2)
	wantText(t, "stage a() { "+lets(0, 30)+"} stage b() { "+lets(0, 31)+"}", api.ErrMany, -3)
	wantText(t, "stage a() { "+lets(0, 30)+"} stage b() { "+lets(0, 30)+"}", api.ErrMain, -1)
}

// P5.1: N of a chan.
func TestMaxSlots(t *testing.T) {
	for n := range api.MaxSlots + 3 {
		stmts := fmt.Sprintf("chan s r int %d;", n)
		if 1 <= n && n <= api.MaxSlots {
			wantText(t, lay(stmts), 0, 0)
		} else {
			wantText(t, lay(stmts), api.ErrRange, 0)
		}
	}
	wantText(t, lay("chan s r int 999999999999999999;"), api.ErrRange, 0)
	wantText(t, lay("chan s r recv recv recv int 6;"), api.ErrRange, 0)
	wantText(t, lay("chan s r recv recv recv int 0;"), api.ErrRange, 0)
	wantText(t, lay("chan s s recv recv recv int 0;"), api.ErrTwice, 0)
}

// P5.1: T of a chan has one end fewer than a type may have.
func TestMaxEnds(t *testing.T) {
	for _, first := range []string{"", "send ", "recv "} {
		for _, second := range []string{"", "send ", "recv "} {
			wantText(t, lay("chan s r "+first+second+"int 1;"), 0, 0)
			for _, third := range []string{"send ", "recv "} {
				if first != "" && second != "" {
					wantText(t, lay("chan s r "+first+second+third+"int 1;"), api.ErrType, 0)
				}
			}
		}
	}
	wantText(t, "stage a(x send send send int, y recv recv recv int) { take z from y { send x z; } } stage main(in recv int) { }", api.ErrType, 1)
	wantVars(t, "stage a(x send send send int, y recv send send int) { take z from y { send x z; } clone w x; } stage main(in recv int) { }", "x sssi, y rssi, z ssi, w sssi", "in ri")
}

// P5.1: the greatest programs that there may be.
func TestGreatPrograms(t *testing.T) {
	src := ""
	for i := range api.MaxStages - 1 {
		src += fmt.Sprintf("stage s%d(a int, b int, c int, d int, e int, f int) { %s} ", i, lets(0, 24))
	}
	src += "stage main(in recv int) { " + rep("if 1 { ", api.MaxDepth-1) + lets(0, 29) + rep("emit 1; ", api.MaxStmts-9*24-7-29) + rep("} ", api.MaxDepth-1) + "}"
	p := parsed(t, src)
	if n := len(stmtsOf(&p)); n != api.MaxStmts {
		t.Fatalf("%d statements", n)
	}
	for i, vars := range right(t, p) {
		if len(vars) != api.MaxVars {
			t.Errorf("stage %d: %d names", i, len(vars))
		}
	}
	terms := "x" + rep(" + x", 9)
	wantText(t, lay("let x = 1; emit "+terms+";"), 0, 0)
	wantText(t, lay("let x = 1; emit "+strings.TrimSuffix(terms, "x")+"y;"), api.ErrNone, 1)
	wantText(t, lay("let x = 1; emit "+strings.TrimSuffix(terms, "x")+"in;"), api.ErrType, 1)
	wantText(t, lay("emit "+rep("-", 19)+"in;"), api.ErrType, 0)
}
