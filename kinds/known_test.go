package kinds

import (
	"strings"
	"testing"

	"pipewright/api"
)

// where lays the use of a name at one place of the stage, marked by a digit;
// the others are left out.
func where(stmts string, place string, use string) string {
	for _, digit := range strings.Split("0123456789", "") {
		with := ""
		if digit == place {
			with = use
		}
		stmts = strings.ReplaceAll(stmts, "@"+digit, with)
	}
	return stmts
}

// P5.1: where a name is known: at the places that are told, and nowhere else.
func TestKnown(t *testing.T) {
	for _, c := range []struct{ what, stmts, use, at string }{
		{"let",
			"@0 let x = 1; @1 if 1 { @2 repeat 1 { @3 } @4 } else { @5 } @6",
			"emit x;", "123456"},
		{"set",
			"@0 let x = 1; @1 take y from in { @2 } else { @3 } @4 for z from in { @5 } @6",
			"set x = 1;", "123456"},
		{"let in a block",
			"@0 if 1 { @1 let x = 1; @2 repeat 1 { @3 } if 1 { } else { @4 } @5 } else { @6 } @7 if 1 { @8 }",
			"emit x;", "2345"},
		{"let in an else",
			"@0 if 1 { @1 } else { @2 let x = 1; @3 repeat 1 { @4 } @5 } @6 if 1 { @7 } else { @8 }",
			"emit x;", "345"},
		{"let in a repeat",
			"@0 repeat 2 { @1 let x = 1; @2 } @3 repeat 2 { @4 }",
			"emit x;", "2"},
		{"a chan's A",
			"@0 repeat 2 { @1 chan x y int 1; @2 } @3",
			"send x 1;", "2"},
		{"a chan's B",
			"@0 repeat 2 { @1 chan y x int 1; @2 if 1 { @3 } else { @4 } } @5",
			"drain x;", "234"},
		{"clone",
			"@0 chan s r int 1; @1 for y from r { @2 clone x s; @3 if 1 { @4 } @5 } @6",
			"close x;", "345"},
		{"take",
			"@0 take x from in { @1 if 1 { @2 } else { @3 } @4 } else { @5 if 1 { @6 } } @7 take y from in { @8 }",
			"emit x;", "1234"},
		{"take of an end",
			"@0 chan s r recv int 1; @1 take x from r { @2 for y from x { @3 } @4 } else { @5 } @6",
			"drain x;", "234"},
		{"for",
			"@0 for x from in { @1 repeat 1 { @2 } @3 } @4 if 1 { @5 } for y from in { @6 }",
			"emit x;", "123"},
		{"take in a for",
			"@0 for y from in { @1 take x from in { @2 } else { @3 } @4 } @5",
			"emit x;", "2"},
		{"what is bound in take's Body",
			"@0 take y from in { @1 let x = y; @2 } else { @3 } @4",
			"emit x;", "2"},
		{"what is bound in take's Else",
			"@0 take y from in { @1 } else { @2 let x = 1; @3 } @4",
			"emit x;", "3"},
		{"the parameter",
			"@0 let x = 1; @1 take y from in { @2 if 1 { @3 } else { @4 } } else { @5 } @6",
			"drain in;", "0123456"},
		{"behind seven blocks",
			"@0 if 1 { let x = 1; @1 if 1 { if 1 { if 1 { if 1 { if 1 { if 1 { @2 } @3 } } } } } } @4",
			"emit x;", "123"},
	} {
		for _, place := range strings.Split("0123456789", "") {
			if !strings.Contains(c.stmts, "@"+place) {
				continue
			}
			p := parsed(t, lay(where(c.stmts, place, c.use)))
			want := fault(api.ErrNone, numberOf(t, c.stmts, place))
			if strings.Contains(c.at, place) {
				want = fault(0, 0)
			}
			if got := Check(p); got != want {
				t.Errorf("%s: %s at %s: %v, want %v", c.what, c.use, place, got, want)
			}
		}
	}
}

// numberOf is the number of the statement at a place.
func numberOf(t *testing.T, stmts, place string) int {
	p := parsed(t, lay(where(stmts, place, "emit 999;")))
	for i, s := range stmtsOf(&p) {
		if s.Do == api.DoEmit && s.E[0].N == 999 {
			return i
		}
	}
	t.Fatalf("no place %s in %q", place, stmts)
	return 0
}

// P5.1: a statement does not know what it binds itself.
func TestKnownFromBehind(t *testing.T) {
	wantText(t, lay("let x = x;"), api.ErrNone, 0)
	wantText(t, lay("let x = 1 + -x;"), api.ErrNone, 0)
	wantText(t, lay("clone x x;"), api.ErrNone, 0)
	wantText(t, lay("take x from x { }"), api.ErrNone, 0)
	wantText(t, lay("for x from x { }"), api.ErrNone, 0)
	wantText(t, lay("if x { let x = 1; }"), api.ErrNone, 0)
	wantText(t, lay("repeat x { let x = 1; }"), api.ErrNone, 0)
}

// P5.1: stages know nothing of one another's names, and no name of a stage is
// a variable's.
func TestKnownInOneStage(t *testing.T) {
	wantVars(t, "stage a(x int) { let y = x; } stage main(x recv int) { chan y z int 1; }", "x i, y i", "x ri, y si, z ri")
	wantText(t, "stage a(x int) { let y = x; } stage main(in recv int) { emit x; }", api.ErrNone, 1)
	wantText(t, "stage a(x int) { let y = x; } stage main(in recv int) { emit y; }", api.ErrNone, 1)
	wantText(t, "stage a(x int) { emit in; } stage main(in recv int) { }", api.ErrNone, 0)
	wantText(t, "stage a() { } stage main(in recv int) { emit a; }", api.ErrNone, 0)
	wantText(t, "stage a() { } stage main(in recv int) { emit main; }", api.ErrNone, 0)
	wantText(t, "stage a() { } stage main(in recv int) { spawn in(); }", api.ErrStage, 0)
	wantVars(t, "stage a(a int) { emit a; let main = a; } stage main(main recv int) { let a = 1; spawn a(a); drain main; }", "a i, main i", "main ri, a i")
}

// P5.1: a name that was bound in this stage above is not bound once more, in
// whatever block.
func TestBoundTwice(t *testing.T) {
	binders := []string{
		"let x = 1;", "chan x y int 1;", "chan y x int 1;", "clone x s;",
		"take x from in { }", "for x from in { }",
	}
	again := []string{
		"let x = 1;", "chan x w int 1;", "chan w x int 1;", "clone x s;",
		"take x from in { }", "for x from in { }",
	}
	for _, first := range binders {
		for _, second := range again {
			for _, c := range []struct {
				stmts string
				at    int
			}{
				{"@1 @2", 2},
				{"@1 if 1 { @2 }", 3},
				{"@1 if 1 { } else { @2 }", 3},
				{"@1 repeat 1 { if 1 { @2 } }", 4},
				{"if 1 { @1 } @2", 3},
				{"if 1 { @1 } else { @2 }", 3},
				{"if 1 { } else { @1 } @2", 3},
				{"if 1 { } else { if 1 { @1 } } if 1 { @2 }", 5},
				{"repeat 1 { @1 } repeat 1 { @2 }", 4},
				{"take z from in { @1 } else { @2 }", 3},
				{"for z from in { @1 } for zz from in { @2 }", 4},
			} {
				stmts := strings.NewReplacer("@1", first, "@2", second).Replace(c.stmts)
				wantText(t, lay("chan s r int 1; "+stmts), api.ErrTwice, c.at)
			}
		}
	}
	for _, second := range again {
		wantText(t, lay("chan s r int 1; take x from in { "+second+" }"), api.ErrTwice, 2)
		wantText(t, lay("chan s r int 1; take x from in { } else { "+second+" }"), api.ErrTwice, 2)
		wantText(t, lay("chan s r int 1; for x from in { if 1 { "+second+" } }"), api.ErrTwice, 3)
		wantText(t, "stage main(in recv int, x int) { chan s r int 1; "+second+" }", api.ErrTwice, 1)
		wantText(t, "stage main(x int, in recv int) { chan s r int 1; if 1 { } else { "+second+" } }", api.ErrTwice, 2)
	}
	wantText(t, lay("chan s s int 1;"), api.ErrTwice, 0)
	wantText(t, lay("let in = 1;"), api.ErrTwice, 0)
	wantText(t, lay("if 1 { chan s s int 1; }"), api.ErrTwice, 1)
}
