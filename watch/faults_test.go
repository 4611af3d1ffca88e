package watch

import (
	"math"
	"slices"
	"testing"

	"pipewright/api"
	"pipewright/lower"
	"pipewright/world"
)

// refuses: Run has that fault, and tells nothing else.
func refuses(t *testing.T, what string, c api.Code, in []int64, picks []int, most int, want api.Fault) {
	t.Helper()
	r, f := Run(c, in, picks, most)
	if f != want || !sameReport(r, api.Report{}) {
		t.Errorf("Run of %s, most %d: %v %v, want %v", what, most, r, f, want)
	}
}

type badCode struct {
	what string
	c    api.Code
	want api.Fault
}

// badCodes have one of each of lower.Check's faults, and more.
func badCodes() []badCode {
	fine := proc("ri si i", 1, "send 1 v2; take 2 0 :0")
	with := func(do func(p *api.Proc)) api.Code {
		p := fine
		p.Vars, p.Ins, p.Blocks = slices.Clone(p.Vars), slices.Clone(p.Ins), slices.Clone(p.Blocks)
		do(&p)
		return code(fine, p)
	}
	return []badCode{
		{"nothing", api.Code{}, fault(api.ErrNone, -1)},
		{"too many stages", api.Code{Procs: slices.Repeat([]api.Proc{fine}, 11)}, fault(api.ErrMany, -1)},
		{"a type", with(func(p *api.Proc) { p.Vars[1].T = "x" }), fault(api.ErrType, 9999)},
		{"parameters", with(func(p *api.Proc) { p.Params = 4 }), fault(api.ErrCount, 9999)},
		{"no instructions", with(func(p *api.Proc) { p.Ins = nil }), fault(api.ErrNone, 9999)},
		{"too many instructions", with(func(p *api.Proc) { p.Ins = slices.Repeat(p.Ins[2:], api.MaxIns+1) }), fault(api.ErrMany, 9999)},
		{"a block", with(func(p *api.Proc) { p.Blocks[0].Kind = 2 }), fault(api.ErrForm, 9999)},
		{"no Op", with(func(p *api.Proc) { p.Ins[0].Op = 18 }), fault(api.ErrCode, 10000)},
		{"no variable", with(func(p *api.Proc) { p.Ins[1].A = math.MinInt }), fault(api.ErrCode, 10001)},
		{"no To", with(func(p *api.Proc) { p.Ins[1].To = 3 }), fault(api.ErrCode, 10001)},
		{"no E", with(func(p *api.Proc) { p.Ins[0].E = nil }), fault(api.ErrCode, 10000)},
		{"no last one", with(func(p *api.Proc) { p.Ins = p.Ins[:2] }), fault(api.ErrCode, 10002)},
		{"Main below", api.Code{Procs: []api.Proc{fine}, Main: -1}, fault(api.ErrMain, -1)},
		{"Main above", api.Code{Procs: []api.Proc{fine}, Main: math.MaxInt}, fault(api.ErrMain, -1)},
		{"Main with two", with(func(p *api.Proc) { p.Params = 2 }), fault(api.ErrMain, -1)},
		{"Main of another type", with(func(p *api.Proc) { p.Vars[0].T = "rri"; p.Ins = p.Ins[2:] }), fault(api.ErrMain, -1)},
	}
}

// belows are numbers of steps that can't be.
var belows = []int{-1, -2, -100, math.MinInt32, -1 << 32, math.MinInt + 1, math.MinInt}

// P18.1: ErrRange at -1: most is below 0; that comes ahead of all else.
func TestMostBelow(t *testing.T) {
	c := lowered(t, "stage main(in recv int) { for x from in { emit x; } drain in; }")
	many := make([]int64, api.MaxInputs+1)
	for _, most := range belows {
		want := fault(api.ErrRange, -1)
		refuses(t, "a program", c, nil, nil, most, want)
		refuses(t, "a program with numbers", c, in(1, 2, 3), l(1, -1, 2), most, want)
		refuses(t, "too many numbers", c, many, nil, most, want)
		for _, x := range badCodes() {
			refuses(t, x.what, x.c, nil, nil, most, want)
			refuses(t, x.what, x.c, many, l(-1), most, want)
		}
	}
	wants(t, c, nil, nil, 0, "cut 0: ;")
}

// P18.1: world.New's faults: first lower.Check's, whatever comes in, and however
// many steps may be done.
func TestNoCode(t *testing.T) {
	for _, x := range badCodes() {
		if f := lower.Check(x.c); f != x.want {
			t.Fatalf("lower.Check of %s: %v, want %v", x.what, f, x.want)
		}
		for _, most := range l(0, 1, 100, math.MaxInt) {
			refuses(t, x.what, x.c, nil, nil, most, x.want)
			refuses(t, x.what, x.c, in(1, 2), l(1, 2, 3), most, x.want)
			refuses(t, x.what, x.c, make([]int64, api.MaxInputs+1), nil, most, x.want)
		}
	}
}

// P18.1: then ErrMany at -1: more than MaxInputs numbers.
func TestManyNumbers(t *testing.T) {
	c := lowered(t, "stage main(in recv int) { for x from in { emit x; } drain in; }")
	for _, n := range l(api.MaxInputs+1, api.MaxInputs+2, 100000) {
		for _, most := range l(0, 1, math.MaxInt) {
			refuses(t, "too many numbers", c, make([]int64, n), nil, most, fault(api.ErrMany, -1))
			refuses(t, "too many numbers", c, make([]int64, n), make([]int, n), most, fault(api.ErrMany, -1))
		}
	}
	for _, n := range l(0, 1, 2, 100, api.MaxInputs-1, api.MaxInputs) {
		var in []int64
		for k := range n {
			in = append(in, int64(k*k-7))
		}
		r := whole(t, c, in)
		if !slices.Equal(r.Out, in) || r.How != api.RunOver || r.Steps != 3*n+4 || len(r.Events) > 0 {
			t.Errorf("%d come in: %s", n, short(said(r)))
		}
	}
}

// P18.1: how many picks there are makes no fault, whatever they are.
func TestManyPicks(t *testing.T) {
	c := lowered(t, "stage main(in recv int) { for x from in { emit x; } drain in; }")
	picks := make([]int, 100*api.MaxInputs)
	for k := range picks {
		picks[k] = wildPicks[k%len(wildPicks)]
	}
	wants(t, c, in(5), picks, 100, "over 7: 5;")
	wants(t, c, in(5), picks, 3, "cut 3: 5;")
}

// P18.1: the faults are those of world.New, of codes that are drawn and then
// made wrong.
func TestDrawnFaults(t *testing.T) {
	w := newWriter(5)
	wrong := 0
	for range 4000 {
		c, in := w.code(12), w.inputs()
		if w.Intn(9) == 0 {
			in = make([]int64, 998+w.Intn(6))
		}
		p := &c.Procs[w.Intn(len(c.Procs))]
		ins := &p.Ins[w.Intn(len(p.Ins))]
		switch w.Intn(6) {
		case 0:
			*ins = w.junk()
		case 1:
			p.Vars[w.Intn(len(p.Vars))].T = pick(w, []string{"i", "si", "x", "", "ssssi"})
		case 2:
			p.Params = w.Intn(12) - 2
		case 3:
			c.Main = w.Intn(7) - 1
		}
		_, want := world.New(c, in)
		most := w.Intn(50)
		if want.Code == 0 {
			ran(t, c, in, w.picks(20), most)
			continue
		}
		wrong++
		refuses(t, "what is drawn", c, in, w.picks(20), most, want)
	}
	if wrong < 1000 {
		t.Errorf("%d are wrong: too few", wrong)
	}
}
