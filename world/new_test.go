package world

import (
	"math"
	"slices"
	"testing"

	"pipewright/api"
	"pipewright/lower"
)

// refuses: New has that fault, and no world.
func refuses(t *testing.T, what string, c api.Code, in []int64, want api.Fault) {
	t.Helper()
	if w, f := New(c, in); f != want || w != nil {
		t.Errorf("New of %s: %v %v, want %v", what, w, f, want)
	}
}

// P17.1: the ends 0 and 1, 0 being dropped, and what came in; the task 0 of the
// stage Main, which has the end 1 in its first variable.
func TestNew(t *testing.T) {
	c := code(proc("ri i", 1, "take 1 0 :3; emit v1; jump :0"))
	shows(t, begun(t, c), "0@0", "s0:-1 r0:0", "0/0[]", "", "")
	shows(t, begun(t, c, 7), "0@0", "s0:-1 r0:0", "0/0[7]", "", "")
	shows(t, begun(t, c, 3, least, 0, -1, greatest, 3), "0@0", "s0:-1 r0:0", "0/0[3,-9223372036854775808,0,-1,9223372036854775807,3]", "", "")
	w := begun(t, c, 8, 9)
	goes(t, w, 0, 0, 0, 0, 0, 0, 0, 0)
	shows(t, w, "0!", "s0:-1 r0:0", "0/0[]", "leak:0@103:1", "8 9")
}

// P17.1: Main is the stage that begins, wherever it stands.
func TestNewOfMain(t *testing.T) {
	other := proc("si", 1, "close 0")
	main := proc("ri", 1, "drain 0")
	for at := range 4 {
		procs := slices.Insert([]api.Proc{other, other, other}, at, main)
		w := begun(t, api.Code{Procs: procs, Main: at}, 5)
		goes(t, w, 0, 0)
		if x := w.Task(0); x != (api.Task{Stage: at, State: api.TaskReady, Wait: -1}) || w.Tasks() != 1 {
			t.Errorf("Main %d: %v of %d", at, x, w.Tasks())
		}
		goes(t, w, 0)
		if len(w.Events()) > 0 {
			t.Errorf("Main %d: %v", at, w.Events())
		}
	}
}

// P17.1: up to MaxInputs numbers, and no more.
func TestNewOfMany(t *testing.T) {
	c := lowered(t, "stage main(in recv int) { for x from in { emit x; } drain in; }")
	for _, n := range l(0, 1, 2, 100, api.MaxInputs-1, api.MaxInputs) {
		var in []int64
		for k := range n {
			in = append(in, int64(k*k-7))
		}
		w := begun(t, c, in...)
		if items := w.Chans()[0].Items; len(items) != n {
			t.Fatalf("%d come in, %d are there", n, len(items))
		}
		runs(t, w)
		if !slices.Equal(w.Out(), in) || len(w.Events()) > 0 {
			t.Errorf("%d come in: %v", n, w.Out())
		}
	}
	for _, n := range l(api.MaxInputs+1, api.MaxInputs+2, 100000) {
		refuses(t, "too many numbers", c, make([]int64, n), fault(api.ErrMany, -1))
	}
}

// P17.1: lower.Check's fault, which comes ahead of too many numbers.
func TestNewOfNoCode(t *testing.T) {
	fine := proc("ri si i", 1, "send 1 v2; take 2 0 :0")
	with := func(do func(p *api.Proc)) api.Code {
		p := fine
		p.Vars, p.Ins, p.Blocks = slices.Clone(p.Vars), slices.Clone(p.Ins), slices.Clone(p.Blocks)
		do(&p)
		return code(fine, p)
	}
	for _, x := range []struct {
		what string
		c    api.Code
		want api.Fault
	}{
		{"nothing", api.Code{}, fault(api.ErrNone, -1)},
		{"too many stages", api.Code{Procs: slices.Repeat([]api.Proc{fine}, 11)}, fault(api.ErrMany, -1)},
		{"a type", with(func(p *api.Proc) { p.Vars[1].T = "x" }), fault(api.ErrType, 9999)},
		{"parameters", with(func(p *api.Proc) { p.Params = 4 }), fault(api.ErrCount, 9999)},
		{"no instructions", with(func(p *api.Proc) { p.Ins = nil }), fault(api.ErrNone, 9999)},
		{"a block", with(func(p *api.Proc) { p.Blocks[0].Kind = 2 }), fault(api.ErrForm, 9999)},
		{"no Op", with(func(p *api.Proc) { p.Ins[0].Op = 18 }), fault(api.ErrCode, 10000)},
		{"no variable", with(func(p *api.Proc) { p.Ins[1].A = math.MinInt }), fault(api.ErrCode, 10001)},
		{"no To", with(func(p *api.Proc) { p.Ins[1].To = 3 }), fault(api.ErrCode, 10001)},
		{"no E", with(func(p *api.Proc) { p.Ins[0].E = nil }), fault(api.ErrCode, 10000)},
		{"no last one", with(func(p *api.Proc) { p.Ins = p.Ins[:2] }), fault(api.ErrCode, 10002)},
		{"Main below", api.Code{Procs: []api.Proc{fine}, Main: -1}, fault(api.ErrMain, -1)},
		{"Main above", api.Code{Procs: []api.Proc{fine}, Main: math.MaxInt}, fault(api.ErrMain, -1)},
		{"Main with two", with(func(p *api.Proc) { p.Params = 2 }), fault(api.ErrMain, -1)},
	} {
		if f := lower.Check(x.c); f != x.want {
			t.Fatalf("lower.Check of %s: %v, want %v", x.what, f, x.want)
		}
		refuses(t, x.what, x.c, nil, x.want)
		refuses(t, x.what, x.c, in(1, 2), x.want)
		refuses(t, x.what, x.c, make([]int64, api.MaxInputs+1), x.want)
	}
	refuses(t, "too many numbers", code(fine, fine), make([]int64, api.MaxInputs+1), fault(api.ErrMany, -1))
}

// P17.1: code at the limits: as many stages, variables and instructions as there
// may be.
func TestNewAtTheLimits(t *testing.T) {
	p := api.Proc{Params: 1, Blocks: []api.Block{{Kind: api.BlockBody}}, Vars: make([]api.Var, 2*api.MaxIns), Ins: make([]api.Ins, api.MaxIns)}
	for v := range p.Vars {
		p.Vars[v].T = "i"
	}
	p.Vars[0].T = "ri"
	for i := range p.Ins {
		p.Ins[i] = api.Ins{Op: api.InLet, A: 1 + i, E: expr("v1,1,+")}
	}
	p.Ins[api.MaxIns-1] = api.Ins{Op: api.InExit}
	c := code(slices.Repeat([]api.Proc{p}, api.MaxStages)...)
	w := begun(t, c)
	goesTo(t, w, 0, 999)
	goesTo(t, w, 0, api.MaxIns-1)
	goes(t, w, 0)
	shows(t, w, "9!", "s0:-1 r0:0", "0/0[]", "leak:0@0:1", "")
}
