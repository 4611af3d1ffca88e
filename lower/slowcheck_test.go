package lower

import (
	"slices"
	"strings"

	"pipewright/api"
)

// has names the fields that each instruction has, beside Block and Loop.
var has = map[int]string{
	api.InLet: "A E", api.InEmit: "E", api.InChan: "A B N T", api.InClone: "A B",
	api.InSend: "A E", api.InGive: "A B", api.InClose: "A", api.InAbandon: "A", api.InDrain: "A",
	api.InSpawn: "A Args", api.InTake: "A B To", api.InTurns: "A E", api.InCount: "A To",
	api.InIf: "E To", api.InJump: "To", api.InOver: "A", api.InExit: "",
}

func hasField(op int, field string) bool {
	return slices.Contains(strings.Fields(has[op]), field)
}

// typesTo tells all types of at most so many ends.
func typesTo(ends int) []string {
	all := []string{"i"}
	for from := 0; ends > 0; ends-- {
		till := len(all)
		for _, t := range all[from:till] {
			all = append(all, "s"+t, "r"+t)
		}
		from = till
	}
	return all
}

// typed: an instruction with the types of its A and its B, and its T.
type typed struct {
	op      int
	a, b, t string
}

// mayBe has a row for each instruction that names variables, for each choice of
// types that it may name.
func mayBe() map[typed]int {
	all := map[typed]int{}
	put := func(op int, a, b, t string) { all[typed{op, a, b, t}]++ }
	for _, op := range []int{api.InLet, api.InTurns, api.InCount} {
		put(op, "i", "", "")
	}
	put(api.InSend, "si", "", "")
	for _, t := range typesTo(api.MaxEnds - 1) {
		s, r := "s"+t, "r"+t
		put(api.InChan, s, r, t)
		put(api.InClone, s, s, "")
		put(api.InClose, s, "", "")
		put(api.InAbandon, r, "", "")
		put(api.InDrain, r, "", "")
		put(api.InTake, t, r, "")
		put(api.InOver, s, "", "")
		put(api.InOver, r, "", "")
		if t != "i" {
			put(api.InGive, s, t, "")
		}
	}
	return all
}

var (
	rows     = mayBe()
	allTypes = typesTo(api.MaxEnds)
)

// slowCheck tells the first of all faults, in the chapter's order.
func slowCheck(c api.Code) api.Fault {
	var told []api.Fault
	say := func(is bool, code, at int) {
		if is {
			told = append(told, fault(code, at))
		}
	}
	say(len(c.Procs) == 0, api.ErrNone, -1)
	say(len(c.Procs) > 10, api.ErrMany, -1)
	for k, p := range c.Procs {
		for _, v := range p.Vars {
			say(!slices.Contains(allTypes, v.T), api.ErrType, 10000*k-1)
		}
		say(p.Params < 0, api.ErrCount, 10000*k-1)
		say(p.Params > len(p.Vars), api.ErrCount, 10000*k-1)
		say(len(p.Ins) == 0, api.ErrNone, 10000*k-1)
		say(len(p.Ins) > 2000, api.ErrMany, 10000*k-1)
		say(len(p.Vars) > 4000, api.ErrMany, 10000*k-1)
		say(len(p.Blocks) > 2000, api.ErrMany, 10000*k-1)
		for i, b := range p.Blocks {
			say(b.Kind < 1 || b.Kind > 5, api.ErrForm, 10000*k-1)
			say((b.Kind == api.BlockBody) != (i == 0), api.ErrForm, 10000*k-1)
			say(i > 0 && (b.Parent < 0 || b.Parent > i-1), api.ErrForm, 10000*k-1)
			say(b.Kind == api.BlockFor && !strings.HasPrefix(slowType(p, b.A), "r"), api.ErrForm, 10000*k-1)
			say(b.N < 0 || b.N > 6, api.ErrForm, 10000*k-1)
		}
		for i, ins := range p.Ins {
			say(!slowIns(c, k, ins), api.ErrCode, 10000*k+i)
		}
		if n := len(p.Ins); n > 0 {
			say(p.Ins[n-1].Op != api.InExit && p.Ins[n-1].Op != api.InJump, api.ErrCode, 10000*k+n)
		}
	}
	say(c.Main < 0 || c.Main >= len(c.Procs), api.ErrMain, -1)
	if c.Main >= 0 && c.Main < len(c.Procs) {
		p := c.Procs[c.Main]
		say(p.Params != 1 || slowType(p, 0) != "ri", api.ErrMain, -1)
	}
	return append(told, api.Fault{})[0]
}

func slowType(p api.Proc, v int) string {
	for i, x := range p.Vars {
		if i == v {
			return x.T
		}
	}
	return "none"
}

func slowIns(c api.Code, k int, ins api.Ins) bool {
	p := c.Procs[k]
	if _, is := has[ins.Op]; !is {
		return false
	}
	number := func(n, of int) bool { return 0 <= n && n < of }
	if !number(ins.Block, len(p.Blocks)) || !number(ins.Loop, len(p.Blocks)) {
		return false
	}
	if hasField(ins.Op, "To") && !number(ins.To, len(p.Ins)) {
		return false
	}
	if hasField(ins.Op, "N") && !number(ins.N-1, 5) {
		return false
	}
	if hasField(ins.Op, "E") && !slowNumber(p, ins.E) {
		return false
	}
	if ins.Op == api.InSpawn {
		return number(ins.A, k) && slowArgs(p, c.Procs[ins.A], ins.Args)
	}
	if !hasField(ins.Op, "A") {
		return true
	}
	row := typed{op: ins.Op, a: slowType(p, ins.A)}
	if hasField(ins.Op, "B") {
		row.b = slowType(p, ins.B)
		if ins.A == ins.B {
			return false
		}
	}
	if hasField(ins.Op, "T") {
		row.t = ins.T
	}
	return rows[row] == 1
}

func slowArgs(p, stage api.Proc, args []api.Arg) bool {
	if len(args) != stage.Params || stage.Params > len(stage.Vars) {
		return false
	}
	for i, arg := range args {
		t := stage.Vars[i].T
		number := t == "i" && slowNumber(p, arg.E)
		end := t != "i" && len(arg.E) == 0 && slowType(p, arg.V) == t
		if !number && !end {
			return false
		}
	}
	return true
}

// slowNumber goes from the back: the last step is the whole, and its parts
// stand ahead of it.
func slowNumber(p api.Proc, steps []api.Push) bool {
	for wanted := 1; wanted > 0; {
		if len(steps) == 0 {
			return false
		}
		last := steps[len(steps)-1]
		steps = steps[:len(steps)-1]
		parts := map[int]int{
			api.PushNum: 0, api.PushVar: 0, api.PushNeg: 1, api.PushAdd: 2,
			api.PushSub: 2, api.PushMul: 2, api.PushLess: 2, api.PushEq: 2,
		}
		n, is := parts[last.Op]
		if !is || last.Op == api.PushVar && slowType(p, int(last.N)) != "i" {
			return false
		}
		wanted += n - 1
	}
	return len(steps) == 0
}
