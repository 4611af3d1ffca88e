package lower

import (
	"fmt"
	"math"
	"slices"
	"strings"
	"testing"

	"pipewright/api"
)

// wild are values that no field may have, if it is looked at.
var wild = []int{-1, math.MinInt64, 5000, math.MaxInt64}

// bare is the least code that may be run.
func bare() api.Code {
	return api.Code{Procs: []api.Proc{{
		Vars: []api.Var{{T: "ri"}}, Params: 1,
		Blocks: []api.Block{{Kind: api.BlockBody}},
		Ins:    []api.Ins{{Op: api.InExit}},
	}}}
}

// typesCode has a variable of each type, behind the parameter, and the
// instruction ahead of the last one.
func typesCode(ins api.Ins) api.Code {
	c := bare()
	for _, t := range allTypes {
		c.Procs[0].Vars = append(c.Procs[0].Vars, api.Var{T: t})
	}
	c.Procs[0].Ins = []api.Ins{ins, {Op: api.InExit}}
	return c
}

// numberOf is that of a variable of typesCode.
func numberOf(t string) int { return 1 + slices.Index(allTypes, t) }

// changed is a copy with one thing changed.
func changed(c api.Code, do func(c *api.Code)) api.Code {
	c = twin(c)
	do(&c)
	return c
}

func TestBareMayBeRun(t *testing.T) {
	wantCode(t, bare(), 0, 0)
	wantCode(t, api.Code{}, api.ErrNone, -1)
	wantCode(t, api.Code{Procs: []api.Proc{}, Main: 5}, api.ErrNone, -1)
	wantCode(t, api.Code{Procs: []api.Proc{{}}}, api.ErrNone, -1)
}

// P6.2: ten Procs, and one more.
func TestProcs(t *testing.T) {
	for n := 1; n <= api.MaxStages+3; n++ {
		c := api.Code{}
		for range n {
			c.Procs = append(c.Procs, bare().Procs...)
		}
		for _, c.Main = range []int{0, n - 1} {
			if n <= api.MaxStages {
				wantCode(t, c, 0, 0)
			} else {
				wantCode(t, c, api.ErrMany, -1)
			}
		}
		c.Procs[n-1].Ins = nil
		if n <= api.MaxStages {
			wantCode(t, c, api.ErrNone, 10000*(n-1)-1)
		} else {
			wantCode(t, c, api.ErrMany, -1)
		}
	}
}

// P6.2: a variable's T.
func TestTypesOfVariables(t *testing.T) {
	lay := func(of string, ahead int) api.Code {
		c := bare()
		for range ahead {
			c.Procs[0].Vars = append(c.Procs[0].Vars, api.Var{T: "i"})
		}
		c.Procs[0].Vars = append(c.Procs[0].Vars, api.Var{Name: "x", T: of})
		return c
	}
	if len(allTypes) != 15 {
		t.Fatalf("types: %v", allTypes)
	}
	for _, ahead := range []int{0, 1, 40} {
		for _, of := range allTypes {
			wantCode(t, lay(of, ahead), 0, 0)
			wantCode(t, lay("s"+rep("r", 3-len(of)+1)+of, ahead), api.ErrType, -1)
		}
		for _, of := range []string{"", "x", "s", "r", "ii", "si ", " i", "is", "S", "I", "xi", "sxi", "ssssi", "rrrri", rep("s", 100000) + "i", "i\x00", "\xff"} {
			wantCode(t, lay(of, ahead), api.ErrType, -1)
		}
	}
	two := api.Code{Procs: append(bare().Procs, lay("x", 3).Procs...)}
	wantCode(t, two, api.ErrType, 9999)
}

// P6.2: Params is from 0 to how many variables there are.
func TestParams(t *testing.T) {
	for vars := range 5 {
		for params := -2; params < vars+3; params++ {
			c := api.Code{Procs: append(bare().Procs, bare().Procs...)}
			p := &c.Procs[1]
			p.Vars, p.Params = slices.Repeat([]api.Var{{T: "ri"}}, vars), params
			if params < 0 || params > vars {
				wantCode(t, c, api.ErrCount, 9999)
			} else {
				wantCode(t, c, 0, 0)
			}
		}
	}
	for _, params := range wild {
		c := bare()
		c.Procs[0].Params = params
		wantCode(t, c, api.ErrCount, -1)
	}
}

// P6.2: how many instructions, variables and blocks there may be.
func TestMany(t *testing.T) {
	exits := func(n int) api.Code {
		c := bare()
		c.Procs[0].Ins = slices.Repeat(c.Procs[0].Ins, n)
		return c
	}
	vars := func(n int) api.Code {
		c := bare()
		c.Procs[0].Vars = slices.Repeat(c.Procs[0].Vars, n)
		return c
	}
	blocks := func(n int) api.Code {
		c := bare()
		c.Procs[0].Blocks = append(c.Procs[0].Blocks, slices.Repeat([]api.Block{{Kind: api.BlockElse}}, n-1)...)
		return c
	}
	for _, c := range []struct {
		make func(n int) api.Code
		most int
	}{{exits, 2000}, {vars, 4000}, {blocks, 2000}} {
		for _, n := range []int{1, 2, c.most - 1, c.most} {
			wantCode(t, c.make(n), 0, 0)
		}
		for _, n := range []int{c.most + 1, 2*c.most + 2, 100000} {
			wantCode(t, c.make(n), api.ErrMany, -1)
			two := api.Code{Procs: append(bare().Procs, c.make(n).Procs...)}
			wantCode(t, two, api.ErrMany, 9999)
		}
	}
	// The very last ones are named.
	c := vars(4000)
	c.Procs[0].Vars[3999].T = "si"
	c.Procs[0].Blocks = blocks(2000).Procs[0].Blocks
	c.Procs[0].Ins = slices.Repeat([]api.Ins{{Op: api.InClose, A: 3999, Block: 1999, Loop: 1999}}, 1999)
	c.Procs[0].Ins = append(c.Procs[0].Ins, api.Ins{Op: api.InJump, To: 1999})
	wantCode(t, c, 0, 0)
	c.Procs[0].Ins[1999].To = 2000
	wantCode(t, c, api.ErrCode, 1999)
	c.Procs[0].Ins[1998].A = 4000
	wantCode(t, c, api.ErrCode, 1998)
	c.Procs[0].Ins[1997].Block = 2000
	wantCode(t, c, api.ErrCode, 1997)
}

// P6.2: blocks.
func TestBlocks(t *testing.T) {
	lay := func(blocks ...api.Block) api.Code {
		c := typesCode(api.Ins{Op: api.InJump})
		c.Procs[0].Blocks = blocks
		return c
	}
	body := api.Block{Kind: api.BlockBody}
	then := api.Block{Kind: api.BlockThen}
	wantCode(t, lay(), api.ErrCode, 0)
	for kind := -1; kind < 9; kind++ {
		first, other := api.ErrForm, api.ErrForm
		if kind == api.BlockBody {
			first = 0
		} else if kind >= 1 && kind <= 5 {
			other = 0
		}
		at := func(code int) int { return -min(code, 1) }
		// The variable 0 is of type ri, for BlockFor.
		wantCode(t, lay(api.Block{Kind: kind}), first, at(first))
		wantCode(t, lay(api.Block{Kind: kind}, then), first, at(first))
		wantCode(t, lay(body, api.Block{Kind: kind}), other, at(other))
		wantCode(t, lay(body, then, api.Block{Kind: kind}, then), other, at(other))
	}
	for _, kind := range wild {
		wantCode(t, lay(api.Block{Kind: kind}), api.ErrForm, -1)
		wantCode(t, lay(body, api.Block{Kind: kind}), api.ErrForm, -1)
	}
	for _, kind := range []int{api.BlockBody, api.BlockFor, api.BlockThen, api.BlockElse, api.BlockRepeat} {
		parents(t, kind, lay)
		numbers(t, kind, lay)
	}
	for i, v := range lay().Procs[0].Vars {
		code, at := 0, 0
		if v.T[0] != 'r' {
			code, at = api.ErrForm, -1
		}
		wantCode(t, lay(body, api.Block{Kind: api.BlockFor, A: i}), code, at)
	}
	for _, a := range append(wild, 16) {
		wantCode(t, lay(body, api.Block{Kind: api.BlockFor, A: a}), api.ErrForm, -1)
		wantCode(t, lay(api.Block{Kind: api.BlockBody, A: a}, api.Block{Kind: api.BlockThen, A: a}, api.Block{Kind: api.BlockElse, A: a}, api.Block{Kind: api.BlockRepeat, A: a}), 0, 0)
	}
}

// parents: that of the first one is not looked at.
func parents(t *testing.T, kind int, lay func(blocks ...api.Block) api.Code) {
	for parent := -2; parent < 7; parent++ {
		if kind == api.BlockBody {
			wantCode(t, lay(api.Block{Kind: kind, Parent: parent}), 0, 0)
			continue
		}
		blocks := slices.Repeat([]api.Block{{Kind: api.BlockThen}}, 5)
		blocks[0].Kind = api.BlockBody
		blocks[3] = api.Block{Kind: kind, Parent: parent}
		if parent >= 0 && parent < 3 {
			wantCode(t, lay(blocks...), 0, 0)
		} else {
			wantCode(t, lay(blocks...), api.ErrForm, -1)
		}
	}
}

// numbers: N of each kind, the first one's, too.
func numbers(t *testing.T, kind int, lay func(blocks ...api.Block) api.Code) {
	for _, n := range append(wild, -1, 0, 1, 5, 6, 7) {
		blocks := []api.Block{{Kind: api.BlockBody}, {Kind: kind, N: n}}
		if kind == api.BlockBody {
			blocks = blocks[1:]
		}
		if n >= 0 && n <= 6 {
			wantCode(t, lay(blocks...), 0, 0)
		} else {
			wantCode(t, lay(blocks...), api.ErrForm, -1)
		}
	}
}

// wantIns asks whether typesCode with the instruction may be run.
func wantIns(t *testing.T, ins api.Ins, is bool) {
	t.Helper()
	if is {
		wantCode(t, typesCode(ins), 0, 0)
	} else {
		wantCode(t, typesCode(ins), api.ErrCode, 0)
	}
}

// P6.2: each Op.
func TestOps(t *testing.T) {
	for op := -2; op < 22; op++ {
		// B is what InTake of a number takes from.
		ins := api.Ins{Op: op, A: numberOf("i"), B: numberOf("ri"), E: []api.Push{{Op: api.PushNum}}}
		switch op {
		case api.InSend, api.InClose, api.InOver:
			ins.A = numberOf("si")
		case api.InAbandon, api.InDrain:
			ins.A = numberOf("ri")
		case api.InChan:
			ins.A, ins.T, ins.N = numberOf("si"), "i", 1
		case api.InGive:
			ins.A = numberOf("sri")
		case api.InClone, api.InSpawn:
			continue // of their own below
		}
		wantIns(t, ins, op >= 1 && op <= 17)
	}
	for _, op := range wild {
		wantIns(t, api.Ins{Op: op}, false)
	}
}

// P6.2: each instruction with a variable of each type, and with none, against
// the rows that there are.
func TestTypesOfInstructions(t *testing.T) {
	all := append([]string{"none"}, allTypes...)
	number := func(of string, none int) int {
		if of == "none" {
			return none
		}
		return numberOf(of)
	}
	count := map[int]int{}
	for op := api.InLet; op <= api.InExit; op++ {
		if op == api.InSpawn {
			continue
		}
		for _, a := range all {
			for _, b := range all {
				for _, of := range append(all, "", "s", "ssssi") {
					if !hasField(op, "T") && of != "none" || !hasField(op, "B") && b != "none" || !hasField(op, "A") && a != "none" {
						continue
					}
					// The variable 0 is of type ri, as another one is.
					ins := api.Ins{Op: op, A: number(a, -1), B: number(b, 16), T: of, N: 1, E: []api.Push{{Op: api.PushNum}}}
					row := typed{op: op, a: a, b: b, t: of}
					if !hasField(op, "T") {
						row.t = ""
					}
					if !hasField(op, "B") {
						row.b = ""
					}
					is := rows[row] == 1 && op != api.InClone || !hasField(op, "A")
					wantIns(t, ins, is)
					if is {
						count[op]++
					}
				}
			}
		}
	}
	want := map[int]int{
		api.InLet: 1, api.InEmit: 1, api.InChan: 7, api.InSend: 1, api.InGive: 6, api.InClose: 7, api.InAbandon: 7, api.InDrain: 7,
		api.InTake: 7, api.InTurns: 1, api.InCount: 1, api.InIf: 1, api.InJump: 1, api.InOver: 14, api.InExit: 1,
	}
	if fmt.Sprint(count) != fmt.Sprint(want) {
		t.Errorf("%v may be run, want %v", count, want)
	}
}

// P6.2: a clone's two ends are two, of one type, that has s first.
func TestClones(t *testing.T) {
	c := typesCode(api.Ins{})
	p := &c.Procs[0]
	p.Vars = append(p.Vars, p.Vars...)
	for a := range len(p.Vars) + 1 {
		for b := range len(p.Vars) + 1 {
			p.Ins[0] = api.Ins{Op: api.InClone, A: a, B: b}
			if a < 32 && b < 32 && a != b && p.Vars[a].T == p.Vars[b].T && p.Vars[a].T[0] == 's' {
				wantCode(t, c, 0, 0)
			} else {
				wantCode(t, c, api.ErrCode, 0)
			}
		}
	}
	p.Ins[0] = api.Ins{Op: api.InClone, A: -1, B: -1}
	wantCode(t, c, api.ErrCode, 0)
	p.Ins[0] = api.Ins{Op: api.InClone, A: -1, B: 40}
	wantCode(t, c, api.ErrCode, 0)
}

// P6.2: a channel's slots, and how many ends its things have at most.
func TestChans(t *testing.T) {
	for _, of := range typesTo(2) {
		for _, n := range append(wild, 0, 1, 2, 5, 6) {
			ins := api.Ins{Op: api.InChan, A: numberOf("s" + of), B: numberOf("r" + of), N: n, T: of}
			wantIns(t, ins, n >= 1 && n <= 5)
			ins.A, ins.B = ins.B, ins.A
			wantIns(t, ins, false)
			ins.A = ins.B
			wantIns(t, ins, false)
		}
	}
	for _, of := range allTypes[7:] {
		// No variable has a type of one end more.
		ins := api.Ins{Op: api.InChan, A: numberOf(of), B: numberOf(of), N: 1, T: of}
		wantIns(t, ins, false)
		ins.T = of[1:]
		ins.A, ins.B = numberOf("s"+of[1:]), numberOf("r"+of[1:])
		wantIns(t, ins, true)
	}
}

// P6.2: steps, in each place that has some.
func TestStepsThatFit(t *testing.T) {
	add, sub, neg := api.Push{Op: api.PushAdd}, api.Push{Op: api.PushSub}, api.Push{Op: api.PushNeg}
	one, x := pushNum(1), pushVar(numberOf("i"))
	list := func(steps ...api.Push) []api.Push { return steps }
	for _, c := range []struct {
		steps []api.Push
		is    bool
	}{
		{nil, false},
		{list(), false},
		{list(one), true},
		{list(x), true},
		{list(pushNum(-1)), true},
		{list(pushNum(math.MinInt64)), true},
		{list(pushNum(math.MaxInt64)), true},
		{list(one, one), false},
		{list(one, x, one), false},
		{list(neg), false},
		{list(one, neg), true},
		{list(one, neg, neg, neg), true},
		{list(neg, one), false},
		{list(add), false},
		{list(one, add), false},
		{list(one, x, add), true},
		{list(one, one, add, add), false},
		{list(one, one, one, add, add), true},
		{list(one, one, one, add), false},
		{list(one, one, add, one, sub), true},
		{list(one, add, one), false},
		{list(one, neg, add, one, one), false},
		{list(add, one, one, one), false},
		{list(one, one, add, neg), true},
		{list(one, one, neg, add), true},
		{list(one, neg, one), false},
		{list(one, one, api.Push{Op: api.PushSub}), true},
		{list(one, one, api.Push{Op: api.PushMul}), true},
		{list(one, one, api.Push{Op: api.PushLess}), true},
		{list(one, one, api.Push{Op: api.PushEq}), true},
		{list(one, api.Push{Op: api.PushSub}), false},
		{list(one, api.Push{Op: api.PushMul}), false},
		{list(one, api.Push{Op: api.PushLess}), false},
		{list(one, api.Push{Op: api.PushEq}), false},
		{list(pushVar(0)), false},
		{list(pushVar(-1)), false},
		{list(pushVar(numberOf("si"))), false},
		{list(pushVar(15)), false},
		{list(pushVar(16)), false},
		{list(pushVar(math.MaxInt64)), false},
		{list(pushVar(math.MinInt64)), false},
		{list(one, pushVar(0), add), false},
		{list(pushVar(0), one, add), false},
		{list(x, x, add), true},
		{list(one, api.Push{}), false},
		{list(api.Push{}), false},
		{list(api.Push{Op: 9}), false},
		{list(one, one, api.Push{Op: 9}), false},
		{list(one, api.Push{Op: -1}), false},
		{list(one, api.Push{Op: 9}), false},
		{list(one, api.Push{Op: api.PushNeg, N: 100}), true},
		{list(one, one, api.Push{Op: api.PushEq, N: -100}), true},
		{slices.Repeat(list(one), 100), false},
		{append(slices.Repeat(list(one), 1000), slices.Repeat(list(add), 999)...), true},
		{append(slices.Repeat(list(one), 1000), slices.Repeat(list(add), 1000)...), false},
		{append(slices.Repeat(list(one), 1000), slices.Repeat(list(add), 998)...), false},
		{append(list(one), slices.Repeat(list(one, add), 50000)...), true},
	} {
		for op := api.InLet; op <= api.InExit; op++ {
			if hasField(op, "E") {
				a := numberOf("i")
				if op == api.InSend {
					a = numberOf("si")
				}
				wantIns(t, api.Ins{Op: op, A: a, E: c.steps}, c.is)
			}
		}
		code := typesCode(api.Ins{Op: api.InSpawn, Args: []api.Arg{{E: c.steps}}})
		number := bare().Procs[0]
		number.Vars = []api.Var{{T: "i"}}
		code.Procs, code.Main = []api.Proc{number, code.Procs[0]}, 1
		if c.is {
			wantCode(t, code, 0, 0)
		} else {
			wantCode(t, code, api.ErrCode, 10000)
		}
	}
}

// P6.2: who may be spawned.
func TestSpawned(t *testing.T) {
	for k := range 4 {
		for a := -1; a < 6; a++ {
			c := bare()
			c.Procs = slices.Repeat(c.Procs, 4)
			c.Procs[k].Ins = []api.Ins{{Op: api.InSpawn, A: a, Args: []api.Arg{{}}}, {Op: api.InExit}}
			if a >= 0 && a < k {
				wantCode(t, c, 0, 0)
			} else {
				wantCode(t, c, api.ErrCode, 10000*k)
			}
		}
	}
	for _, a := range wild {
		c := bare()
		c.Procs = slices.Repeat(c.Procs, 2)
		c.Procs[1].Ins = []api.Ins{{Op: api.InSpawn, A: a, Args: []api.Arg{{}}}, {Op: api.InExit}}
		wantCode(t, c, api.ErrCode, 10000)
	}
}

// P6.2: the Args of a spawn: how many, and of which types. Variables of the
// spawned one that are no parameters are not asked for.
func TestArgs(t *testing.T) {
	e := []api.Push{{Op: api.PushNum, N: 1}}
	lay := func(args ...api.Arg) api.Code {
		c := typesCode(api.Ins{Op: api.InSpawn, Args: args})
		spawned := bare().Procs[0]
		spawned.Vars = []api.Var{{T: "i"}, {T: "sri"}, {T: "i"}, {T: "ri"}, {T: "i"}}
		spawned.Params = 4
		c.Procs, c.Main = []api.Proc{spawned, c.Procs[0]}, 1
		return c
	}
	fit := []api.Arg{{E: e}, {V: numberOf("sri")}, {E: e}, {V: 0}}
	wantCode(t, lay(fit...), 0, 0)
	for n := range fit {
		wantCode(t, lay(fit[:n]...), api.ErrCode, 10000)
	}
	for _, more := range []api.Arg{{}, {E: e}, {V: numberOf("i")}} {
		wantCode(t, lay(append(slices.Clone(fit), more)...), api.ErrCode, 10000)
	}
	for i := range fit {
		wants := []string{"i", "sri", "i", "ri"}[i]
		for v := -1; v < 18; v++ {
			args := slices.Clone(fit)
			args[i].V = v
			is := wants == "i" || v >= 0 && v < 16 && append([]string{"ri"}, allTypes...)[v] == wants
			if is {
				wantCode(t, lay(args...), 0, 0)
			} else {
				wantCode(t, lay(args...), api.ErrCode, 10000)
			}
			args[i].E = nil
			if is && wants != "i" {
				wantCode(t, lay(args...), 0, 0)
			} else {
				wantCode(t, lay(args...), api.ErrCode, 10000)
			}
			args[i].E = e
			if wants == "i" {
				wantCode(t, lay(args...), 0, 0)
			} else {
				wantCode(t, lay(args...), api.ErrCode, 10000)
			}
		}
	}
	// A lower Proc may be spawned twice with one end: that is watched elsewhere.
	twice := changed(lay(fit...), func(c *api.Code) { c.Procs[0].Vars[1].T = "ri" })
	twice.Procs[1].Ins[0].Args[1].V = 0
	wantCode(t, twice, 0, 0)
}

// P6.2: To, Block and Loop are numbers of what there is.
func TestNumbers(t *testing.T) {
	base := lowered(t, long)
	for k, p := range base.Procs {
		for i, ins := range p.Ins {
			for _, c := range []struct {
				field string
				of    int
				set   func(to int) func(ins *api.Ins)
			}{{"To", len(p.Ins), setTo}, {"Block", len(p.Blocks), setBlock}, {"Loop", len(p.Blocks), setLoop}} {
				for _, to := range append(wild, 0, 1, c.of-1, c.of, c.of+1) {
					code := changed(base, atIns("", k, i, c.set(to)).do)
					if to >= 0 && to < c.of || c.field == "To" && !hasField(ins.Op, "To") {
						wantCode(t, code, 0, 0)
					} else {
						wantCode(t, code, api.ErrCode, 10000*k+i)
					}
				}
			}
		}
	}
}

// P6.2: what an instruction does not have is not looked at, whatever it is.
func TestOtherFields(t *testing.T) {
	base := lowered(t, long)
	steps := [][]api.Push{{}, {{Op: 9}}, {{Op: api.PushNum}}, {{Op: api.PushVar, N: -1}}}
	for k, p := range base.Procs {
		for i, ins := range p.Ins {
			free := func(field string) bool { return !hasField(ins.Op, field) }
			want := func(do func(ins *api.Ins)) {
				t.Helper()
				wantCode(t, changed(base, atIns("", k, i, do).do), 0, 0)
			}
			for _, n := range append(wild, 0, 1) {
				want(func(ins *api.Ins) { ins.At = n })
				for field, set := range map[string]func(int) func(*api.Ins){"A": setA, "B": setB, "N": setN, "To": setTo} {
					if free(field) {
						want(set(n))
					}
				}
				if free("Args") {
					want(func(ins *api.Ins) { ins.Args = []api.Arg{{V: n, E: []api.Push{{Op: n}}}} })
				}
				want(func(ins *api.Ins) {
					for s := range ins.E {
						if ins.E[s].Op > api.PushVar {
							ins.E[s].N = int64(n)
						}
					}
				})
			}
			for _, e := range steps {
				if free("E") {
					want(setE(e...))
				}
			}
			for _, of := range []string{"", "i", "zzz"} {
				if free("T") {
					want(setT(of))
				}
			}
		}
	}
	// Names are not looked at.
	named := twin(base)
	for k := range named.Procs {
		named.Procs[k].Name = "main"
		for v := range named.Procs[k].Vars {
			named.Procs[k].Vars[v].Name = rep("x ", v)
		}
	}
	wantCode(t, named, 0, 0)
}

// P6.2: the last instruction is InExit or InJump, told behind all others of its
// Proc, with how many there are.
func TestLast(t *testing.T) {
	base := lowered(t, long)
	for k, p := range base.Procs {
		for n := range len(p.Ins) + 1 {
			c := changed(base, func(c *api.Code) { c.Procs[k].Ins = c.Procs[k].Ins[:n] })
			for i := range n {
				c.Procs[k].Ins[i].To = 0
			}
			switch {
			case n == 0:
				wantCode(t, c, api.ErrNone, 10000*k-1)
			case p.Ins[n-1].Op == api.InExit || p.Ins[n-1].Op == api.InJump:
				wantCode(t, c, 0, 0)
			default:
				wantCode(t, c, api.ErrCode, 10000*k+n)
				// A fault of the last instruction itself comes ahead.
				c.Procs[k].Ins[n-1].Block = -1
				wantCode(t, c, api.ErrCode, 10000*k+n-1)
			}
		}
	}
}

// P6.2: who may be Main.
func TestWhoIsMain(t *testing.T) {
	proc := func(params int, types string) api.Proc {
		p := bare().Procs[0]
		p.Params, p.Vars = params, nil
		for _, of := range strings.Fields(types) {
			p.Vars = append(p.Vars, api.Var{T: of})
		}
		return p
	}
	for _, c := range []struct {
		params int
		types  string
		is     bool
	}{
		{1, "ri", true}, {1, "ri i", true}, {1, "ri ri si", true}, {0, "ri", false}, {0, "", false}, {2, "ri ri", false},
		{2, "ri i", false}, {1, "i", false}, {1, "si", false}, {1, "rri", false}, {1, "rsi", false}, {1, "sri ri", false}, {2, "i ri", false},
	} {
		for main := -2; main < 6; main++ {
			code := api.Code{Procs: slices.Repeat([]api.Proc{proc(0, "")}, 4), Main: main}
			code.Procs[2] = proc(c.params, c.types)
			if c.is && main == 2 {
				wantCode(t, code, 0, 0)
			} else {
				wantCode(t, code, api.ErrMain, -1)
			}
		}
	}
	for _, main := range wild {
		c := bare()
		c.Main = main
		wantCode(t, c, api.ErrMain, -1)
	}
}

// P6.2: code that may be run, an instruction of which is turned into one that
// is none, is refused, and at that instruction.
func TestTurnedIntoNone(t *testing.T) {
	for _, p := range append(somePrograms(20, 60), parsed(t, long)) {
		base, _ := Lower(p)
		for k := range base.Procs {
			for i := range base.Procs[k].Ins {
				c := changed(base, atIns("", k, i, setOp([]int{0, 18, -1, math.MaxInt64}[(i+k)%4])).do)
				wantCode(t, c, api.ErrCode, 10000*k+i)
			}
		}
	}
}
