package own

import (
	"math"
	"slices"
	"testing"

	"pipewright/api"
)

// someVars: of ends 0, 1, 4, 5 (any T of more than one byte is one's), of none
// 2, 3, 6, 7.
var someVars = []api.Var{{T: "si"}, {T: "ri"}, {T: "i"}, {T: ""}, {T: "rsi"}, {T: "??"}, {T: "s"}, {T: "\x00"}}

// someNumbers are the variables, and what is none.
func someNumbers() []int {
	return append(slices.Clone(wild), 0, 1, 2, 3, 4, 5, 6, 7, 8, 9)
}

// someOps are 0 to 18, some below 0 and some far away.
func someOps() []int {
	ops := slices.Clone(wild)
	for op := range 19 {
		ops = append(ops, op)
	}
	return ops
}

func one(ins api.Ins) api.Proc { return api.Proc{Vars: someVars, Ins: []api.Ins{ins}} }

// P8: the table, row by row, where A and B are of ends.
func TestActsByTheTable(t *testing.T) {
	table := map[int][]api.Act{
		api.InChan:    {{What: api.ActBind, Var: 4}, {What: api.ActBind, Var: 1}},
		api.InClone:   {{What: api.ActUse, Var: 1}, {What: api.ActBind, Var: 4}},
		api.InSend:    {{What: api.ActUse, Var: 4}},
		api.InGive:    {{What: api.ActUse, Var: 4}, {What: api.ActDrop, Var: 1}},
		api.InClose:   {{What: api.ActDrop, Var: 4}},
		api.InAbandon: {{What: api.ActDrop, Var: 4}},
		api.InDrain:   {{What: api.ActDrop, Var: 4}},
		api.InSpawn:   {{What: api.ActDrop, Var: 5}, {What: api.ActDrop, Var: 0}},
		api.InTake:    {{What: api.ActUse, Var: 1}, {What: api.ActBind, Var: 4}},
		api.InOver:    {{What: api.ActOver, Var: 4}},
	}
	for _, op := range someOps() {
		wantActs(t, one(api.Ins{Op: op, A: 4, B: 1, Args: []api.Arg{{V: 5}, {V: 0}}}), 0, table[op]...)
	}
}

// P8: each Op with each A and B: those that are no variables of ends are passed
// over, and the acts on the others stay in their order.
func TestActsPassOver(t *testing.T) {
	count := 0
	for _, op := range someOps() {
		for _, a := range someNumbers() {
			for _, b := range someNumbers() {
				p := one(api.Ins{Op: op, A: a, B: b})
				want := slowActs(p, 0)
				count += len(want)
				wantActs(t, p, 0, want...)
			}
		}
	}
	// The table names A or B thirteen times; 4 of 18 numbers are of ends.
	if want := 13 * 4 * 18; count != want {
		t.Errorf("%d acts, want %d", count, want)
	}
}

// P8: A and B the same variable: two acts all the same.
func TestActsTwice(t *testing.T) {
	for _, v := range []int{0, 1, 4, 5} {
		wantActs(t, one(api.Ins{Op: api.InChan, A: v, B: v}), 0, bind(v), bind(v))
		wantActs(t, one(api.Ins{Op: api.InClone, A: v, B: v}), 0, use(v), bind(v))
		wantActs(t, one(api.Ins{Op: api.InTake, A: v, B: v}), 0, use(v), bind(v))
		wantActs(t, one(api.Ins{Op: api.InGive, A: v, B: v}), 0, use(v), drop(v))
	}
	for _, v := range append(slices.Clone(wild), 2, 3, 6, 7, 8) {
		for _, op := range someOps() {
			wantActs(t, one(api.Ins{Op: op, A: v, B: v, Args: []api.Arg{{V: v}, {V: v}}}), 0)
		}
	}
}

// P8: InTake binds in its acts, wherever it leads to.
func TestActsOfTake(t *testing.T) {
	for _, to := range append(slices.Clone(wild), 0, 1, 2, 3, 4) {
		p := code("si ri i", 0, "let; take 0 1; let; exit")
		p.Ins[1].To = to
		wantActs(t, p, 1, use(1), bind(0))
		p.Ins = p.Ins[:2]
		wantActs(t, p, 1, use(1), bind(0))
		p.Ins[1].A = 2
		wantActs(t, p, 1, use(1))
		p.Ins[1].A, p.Ins[1].B = 0, 2
		wantActs(t, p, 1, bind(0))
	}
}

// P8: a spawn drops what is handed on, in order; Args with an E are passed over,
// whatever their V. A is a stage's number, and no variable's.
func TestActsOfSpawn(t *testing.T) {
	e := []api.Push{{Op: api.PushVar, N: 0}}
	choices := []api.Arg{
		{V: 0}, {V: 4}, {V: 1, E: []api.Push{}}, // dropped
		{V: 2}, {V: 3}, {V: -1}, {V: len(someVars)}, // of no end
		{V: 0, E: e}, {V: 2, E: e}, // numbers
	}
	for _, a := range []int{-1, 0, 1, 2, 8} {
		wantActs(t, one(api.Ins{Op: api.InSpawn, A: a, B: 1}), 0)
		wantActs(t, one(api.Ins{Op: api.InSpawn, A: a, B: 1, Args: []api.Arg{}}), 0)
	}
	var args []api.Arg
	var lay func(want []api.Act)
	lay = func(want []api.Act) {
		wantActs(t, one(api.Ins{Op: api.InSpawn, Args: args}), 0, want...)
		if len(args) == 4 || t.Failed() {
			return
		}
		for k, arg := range choices {
			args = append(args, arg)
			if k < 3 {
				lay(append(slices.Clone(want), drop(arg.V)))
			} else {
				lay(want)
			}
			args = args[:len(args)-1]
		}
	}
	lay(nil)
	wantActs(t, code("si ri", 0, "spawn 1 1 0 e0 1"), 0, drop(1), drop(1), drop(0), drop(1))
}

// P8: the order is the table's, not that of the numbers.
func TestActsInOrder(t *testing.T) {
	wantActs(t, code("si ri si", 0, "chan 2 0"), 0, bind(2), bind(0))
	wantActs(t, code("si ri si", 0, "chan 0 2"), 0, bind(0), bind(2))
	wantActs(t, code("si ri si", 0, "clone 0 2"), 0, use(2), bind(0))
	wantActs(t, code("si ri si", 0, "clone 2 0"), 0, use(0), bind(2))
	wantActs(t, code("si ri si", 0, "give 2 1"), 0, use(2), drop(1))
	wantActs(t, code("si ri si", 0, "give 1 2"), 0, use(1), drop(2))
	wantActs(t, code("si ri si", 0, "take 2 1"), 0, use(1), bind(2))
	wantActs(t, code("si ri si", 0, "take 1 2"), 0, use(2), bind(1))
	wantActs(t, code("si ri si", 0, "spawn 2 0 1"), 0, drop(2), drop(0), drop(1))
}

// P8: of what is no instruction there is none.
func TestActsOfNone(t *testing.T) {
	for _, i := range append(slices.Clone(wild), 0, 1, 2) {
		wantActs(t, api.Proc{}, i)
		wantActs(t, api.Proc{Vars: someVars, Params: 2, Ins: []api.Ins{}}, i)
	}
	p := code("si ri", 0, "close 0; drain 1; chan 0 1")
	for _, i := range append(slices.Clone(wild), 3, 4) {
		wantActs(t, p, i)
	}
	wantActs(t, p, 0, drop(0))
	wantActs(t, p, 1, drop(1))
	wantActs(t, p, 2, bind(0), bind(1))
	p.Vars = nil
	for i := range p.Ins {
		wantActs(t, p, i)
	}
}

// P8: nothing else counts, neither of the instruction nor of the Proc.
func TestActsHangOnLittle(t *testing.T) {
	for _, op := range someOps() {
		args := []api.Arg{{V: 1}, {V: 0, E: []api.Push{{Op: -1, N: math.MinInt64}}}, {V: 4}}
		want := Acts(one(api.Ins{Op: op, A: 1, B: 5, Args: args}), 0)
		for _, n := range append(slices.Clone(wild), 0, 1, 3) {
			ins := api.Ins{
				Op: op, A: 1, B: 5, Args: args, N: n, To: n, T: "??", Block: n, Loop: n, At: n,
				E: []api.Push{{Op: n, N: int64(n)}},
			}
			other := api.Ins{Op: n, A: n, B: n, To: n}
			p := api.Proc{
				Name: "x", Params: n, Vars: someVars, Ins: []api.Ins{other, ins, other},
				Blocks: []api.Block{{Kind: n, Parent: n, A: n, N: n}},
			}
			wantActs(t, p, 1, want...)
		}
	}
}
