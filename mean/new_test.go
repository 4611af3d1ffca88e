package mean

import (
	"fmt"
	"slices"
	"strings"
	"testing"

	"pipewright/api"
	"pipewright/kinds"
)

// refuses: New has that fault, and no mean.
func refuses(t *testing.T, what string, p api.Program, in []int64, want api.Fault) {
	t.Helper()
	if m, f := New(p, in); f != want || m != nil {
		t.Errorf("New of %s: %v %v, want %v", what, m, f, want)
	}
}

// P19.1: the ends 0 and 1, 0 being dropped, and what came in; the task 0 of the
// stage main, whose parameter is the end 1.
func TestNew(t *testing.T) {
	const copies = "for x from in { emit x; }"
	shows(t, begunMain(t, copies), "0", "s0:-1 r0:0", "0/0[]", "", "")
	shows(t, begunMain(t, copies, 7), "0", "s0:-1 r0:0", "0/0[7]", "", "")
	m := begunMain(t, copies, 3, least, 0, -1, greatest, 3)
	shows(t, m, "0", "s0:-1 r0:0", "0/0[3,-9223372036854775808,0,-1,9223372036854775807,3]", "", "")
	if n := runs(t, m); n != 14 {
		t.Errorf("%d deeds", n)
	}
	shows(t, m, "0!", "s0:-1 r0:0", "0/0[]", "leak:0@900:1", "3 -9223372036854775808 0 -1 9223372036854775807 3")
}

// P19.1: main is the stage that begins, wherever it stands.
func TestNewOfMain(t *testing.T) {
	for at := range 4 {
		stages := []string{"stage a(in send int) { close in; }", "stage b() { }", "stage mains(in recv int) { abandon in; }"}
		stages = slices.Insert(stages, at, "stage main(in recv int) { drain in; }")
		m := begun(t, strings.Join(stages, "\n"), 5)
		if x := m.Task(0); x != (api.Task{Stage: at, State: api.TaskReady, Wait: -1}) || m.Tasks() != 1 {
			t.Errorf("main at %d: %v of %d", at, x, m.Tasks())
		}
		goes(t, m, 0, 0, 0)
		shows(t, m, fmt.Sprint(at, "!"), "s0:-1 r0:-1", "0/0[]-", "", "")
	}
}

// P19.1: main's parameter may have any name.
func TestNewOfAnyName(t *testing.T) {
	for _, name := range []string{"a", "x9", "mainmainmain", "stages"} {
		m := begun(t, strings.ReplaceAll("stage main(@ recv int) { for y from @ { emit y; } drain @; }", "@", name), 8, 9)
		runs(t, m)
		shows(t, m, "0!", "s0:-1 r0:-1", "0/0[]-", "", "8 9")
	}
}

// P19.1: up to MaxInputs numbers, and no more.
func TestNewOfMany(t *testing.T) {
	p := said(t, "stage main(in recv int) { for x from in { emit x; } drain in; }")
	for _, n := range []int{0, 1, 2, 100, api.MaxInputs - 1, api.MaxInputs} {
		var in []int64
		for k := range n {
			in = append(in, int64(k*k-7))
		}
		m := begunOf(t, p, in...)
		if items := m.Chans()[0].Items; len(items) != n {
			t.Fatalf("%d come in, %d are there", n, len(items))
		}
		runs(t, m)
		if !slices.Equal(m.Out(), in) || len(m.Events()) > 0 {
			t.Errorf("%d come in: %v", n, m.Out())
		}
	}
	for _, n := range []int{api.MaxInputs + 1, api.MaxInputs + 2, 100000} {
		refuses(t, "too many numbers", p, make([]int64, n), fault(api.ErrMany, -1))
	}
}

// spoilt is a program with one thing that is wrong.
func spoilt(t *testing.T, src string, do func(p *api.Program)) api.Program {
	t.Helper()
	p := parsed(t, src)
	do(&p)
	return p
}

// wrongPrograms are such as kinds.Check has a fault of.
func wrongPrograms(t *testing.T) map[string]api.Program {
	t.Helper()
	const fine = "stage f(a recv int) { drain a; } stage main(in recv int) { let n = 1; emit n + 2; spawn f(in); }"
	first := func(p *api.Program) *api.Stmt { return &p.Stages[1].Body[0] }
	all := map[string]api.Program{
		"no stages":        {},
		"an empty list":    {Stages: []api.Stage{}},
		"too many stages":  spoilt(t, fine, func(p *api.Program) { p.Stages = slices.Repeat(p.Stages, 6) }),
		"a stage twice":    spoilt(t, fine, func(p *api.Program) { p.Stages = append(p.Stages, p.Stages[0]) }),
		"no main":          spoilt(t, fine, func(p *api.Program) { p.Stages[1].Name = "mean" }),
		"main of nothing":  parsed(t, "stage main() { }"),
		"main of two":      parsed(t, "stage main(a recv int, b recv int) { }"),
		"main of a send":   parsed(t, "stage main(a send int) { }"),
		"no name":          spoilt(t, fine, func(p *api.Program) { p.Stages[0].Name = "" }),
		"no kind":          spoilt(t, fine, func(p *api.Program) { first(p).Do = 0 }),
		"a kind above":     spoilt(t, fine, func(p *api.Program) { first(p).Do = 15 }),
		"no E":             spoilt(t, fine, func(p *api.Program) { first(p).E = nil }),
		"a field too many": spoilt(t, fine, func(p *api.Program) { first(p).B = "b" }),
		"a Body too many":  spoilt(t, fine, func(p *api.Program) { first(p).Body = p.Stages[0].Body }),
		"no Op":            spoilt(t, fine, func(p *api.Program) { first(p).E[0].Op = 9 }),
		"no parts":         spoilt(t, fine, func(p *api.Program) { first(p).E[0].Op = api.OpAdd }),
		"too deep":         spoilt(t, fine, func(p *api.Program) { p.Stages[1].Body = nested(9) }),
		"a name not known": parsed(t, "stage main(in recv int) { emit x; }"),
		"a name bound twice": parsed(t,
			"stage main(in recv int) { let in = 1; }"),
		"a number for an end":  parsed(t, "stage main(in recv int) { let n = 1; close n; }"),
		"an end for a number":  parsed(t, "stage main(in recv int) { emit in; }"),
		"a stage not above":    parsed(t, "stage main(in recv int) { spawn f(); } stage f() { }"),
		"itself":               parsed(t, "stage main(in recv int) { spawn main(in); }"),
		"too few":              parsed(t, "stage f(n int) { } stage main(in recv int) { spawn f(); }"),
		"slots":                parsed(t, "stage main(in recv int) { chan a b int 6; }"),
		"too many statements":  {Stages: []api.Stage{{Name: "main", Params: []api.Param{{Name: "in", T: "ri"}}, Body: slices.Repeat(parsed(t, "stage a() { emit 1; }").Stages[0].Body, 301)}}},
		"used behind its for":  parsed(t, "stage main(in recv int) { for x from in { } emit x; }"),
		"used behind its then": parsed(t, "stage main(in recv int) { if 1 { let x = 1; } emit x; }"),
	}
	return all
}

// nested are so many ifs within each other.
func nested(deep int) []api.Stmt {
	var list []api.Stmt
	for range deep {
		list = []api.Stmt{{Do: api.DoIf, E: []api.Expr{{Op: api.OpNum, N: 1}}, Body: list}}
	}
	return list
}

// P19.1: kinds.Check's fault, which comes ahead of too many numbers.
func TestNewOfNoProgram(t *testing.T) {
	for what, p := range wrongPrograms(t) {
		want := kinds.Check(p)
		if want.Code == 0 {
			t.Fatalf("kinds.Check has no fault of %s", what)
		}
		refuses(t, what, p, nil, want)
		refuses(t, what, p, in(1, 2), want)
		refuses(t, what, p, make([]int64, api.MaxInputs+1), want)
	}
}

// P19.1: some of these faults, written out.
func TestNewsFaults(t *testing.T) {
	for src, want := range map[string]api.Fault{
		"stage main(in recv int) { emit 1; emit x; }":                     fault(api.ErrNone, 1),
		"stage a(b int) { emit b; } stage main(in recv int) { emit in; }": fault(api.ErrType, 1),
		"stage a() { } stage a() { }":                                     fault(api.ErrTwice, -3),
		"stage a() { }":                                                   fault(api.ErrMain, -1),
		"stage main(in recv int) { chan a b int 0; }":                     fault(api.ErrRange, 0),
		"stage main(in recv int) { spawn g(); }":                          fault(api.ErrStage, 0),
	} {
		refuses(t, src, parsed(t, src), nil, want)
	}
	refuses(t, "no stages", api.Program{}, nil, fault(api.ErrNone, -1))
}

// P19.1: a fault is the same as another thing that lower.Lower tells; none, and
// there is a mean, drawn as it comes.
func TestNewOfDrawn(t *testing.T) {
	a := newAuthor(41)
	right := 0
	for range 3000 {
		p := a.program()
		s := pick(a, p.Stages).Body
		if len(s) > 0 {
			k := a.Intn(len(s))
			switch a.Intn(6) {
			case 0:
				s[k].A = "n1"
			case 1:
				s[k].B = "in"
			case 2:
				s[k].Do = a.Intn(16)
			case 3:
				s[k].E = append(s[k].E, api.Expr{Op: 1})
			}
		}
		want := kinds.Check(p)
		m, f := New(p, a.inputs())
		if f != want || (m == nil) != (f.Code != 0) {
			t.Fatalf("New: %v, want %v", f, want)
		}
		if m != nil {
			right++
			goesOn(t, m, 0, min(1, len(ready(m))))
		}
	}
	if right < 500 || right > 2500 {
		t.Errorf("%d are right", right)
	}
}
