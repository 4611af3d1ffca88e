package watch

import (
	"math"
	"slices"
	"testing"

	"pipewright/api"
	"pipewright/bound"
)

// P1: very many steps.
func TestManySteps(t *testing.T) {
	const most = 2000000
	inTime(t, "steps", func() {
		c := mainOf("ri i", "let 1 v1,1,+; jump :0")
		if r := ran(t, c, nil, make([]int, most), most); r.How != api.RunCut || r.Steps != most {
			t.Error(said(r))
		}
	})
}

// P1: as many numbers as may come in, through many tasks, by all kinds of picks.
func TestManyNumbersThroughMany(t *testing.T) {
	const pipes = 14
	src := "stage f(a recv int, b send int) { for x from a { send b x + 1; } drain a; close b; }\nstage main(in recv int) { "
	last := "in"
	for k := range pipes {
		n := string(rune('a' + k))
		src += "chan s" + n + " r" + n + " int 5; spawn f(" + last + ", s" + n + "); "
		last = "r" + n
	}
	c := lowered(t, src+"for x from "+last+" { emit x; } drain "+last+"; }")
	var in, want []int64
	for k := range api.MaxInputs {
		in = append(in, int64(k))
		want = append(want, int64(k+pipes))
	}
	most, f := bound.Steps(c, len(in))
	if f.Code != 0 {
		t.Fatal(f)
	}
	steps := 0
	inTime(t, "numbers", func() {
		w := newWriter(41)
		for _, picks := range [][]int{nil, slices.Repeat([]int{-1}, most), w.picks(most)} {
			r := ran(t, c, in, picks, most)
			if r.How != api.RunOver || !slices.Equal(r.Out, want) || len(r.Events) > 0 || steps > 0 && r.Steps != steps {
				t.Errorf("%s", short(said(r)))
			}
			steps = r.Steps
		}
	})
}

// P1: very many tasks, at once or one behind the other.
func TestManyTasks(t *testing.T) {
	const most = 12000
	c := code(proc("i", 1, "emit v0"), proc("ri", 1, "drain 0; spawn 0 1; jump :1"))
	inTime(t, "tasks", func() {
		for _, picks := range [][]int{nil, slices.Repeat([]int{-1}, most), newWriter(42).picks(most)} {
			if r := ran(t, c, nil, picks, most); r.How != api.RunCut || r.Steps != most || len(r.Events) > 0 {
				t.Errorf("%s", short(said(r)))
			}
		}
	})
}

// P1: stages as large as they may be, and picks that are of no use any more.
func TestAtTheLimits(t *testing.T) {
	p := api.Proc{Params: 1, Blocks: []api.Block{{Kind: api.BlockBody}}, Vars: make([]api.Var, 2*api.MaxIns), Ins: make([]api.Ins, api.MaxIns)}
	for v := range p.Vars {
		p.Vars[v].T = "i"
	}
	p.Vars[0].T = "ri"
	for k := range p.Ins {
		p.Ins[k] = api.Ins{Op: api.InEmit, E: expr("v1,1,+")}
	}
	p.Ins[api.MaxIns-1] = api.Ins{Op: api.InExit, At: 7}
	c := code(slices.Repeat([]api.Proc{p}, api.MaxStages)...)
	r := ran(t, c, make([]int64, api.MaxInputs), make([]int, 1000000), math.MaxInt)
	if r.How != api.RunOver || r.Steps != api.MaxIns || len(r.Out) != api.MaxIns-1 || saidEvents(r.Events) != "leak:0@7:1" {
		t.Errorf("%s", short(said(r)))
	}
}
