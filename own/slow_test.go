package own

import (
	"slices"
	"strings"

	"pipewright/api"
)

// slowTable is the chapter's table, as it stands.
const slowTable = `
chan: bind A, bind B
clone: use B, bind A
send: use A
give: use A, drop B
close: drop A
abandon: drop A
drain: drop A
take: use B, bind A
over: over A`

func slowRow(op int) []string {
	for line := range strings.Lines(slowTable) {
		if row, is := strings.CutPrefix(strings.TrimSpace(line), word(op)+": "); is {
			return strings.Split(row, ", ")
		}
	}
	return nil
}

func slowIsEnd(p api.Proc, v int) bool {
	for k, known := range p.Vars {
		if k == v {
			return len(known.T) >= 2
		}
	}
	return false
}

// deedWords of the acts, each at its number.
var deedWords = []string{"", "use", "drop", "bind", "over"}

// slowActs reads them off the table.
func slowActs(p api.Proc, i int) []api.Act {
	var acts []api.Act
	add := func(what string, v int) {
		if slowIsEnd(p, v) {
			acts = append(acts, api.Act{What: slices.Index(deedWords, what), Var: v})
		}
	}
	ins := p.Ins[i]
	for _, said := range slowRow(ins.Op) {
		what, of, _ := strings.Cut(said, " ")
		add(what, map[string]int{"A": ins.A, "B": ins.B}[of])
	}
	if ins.Op == api.InSpawn {
		for _, arg := range ins.Args {
			if len(arg.E) < 1 {
				add("drop", arg.V)
			}
		}
	}
	return acts
}

// slowNext is chapter 7's.
func slowNext(p api.Proc, i int) []int {
	var next []int
	for b := range p.Ins {
		follows, led := b == i+1, b == p.Ins[i].To
		switch word(p.Ins[i].Op) {
		case "exit":
			follows, led = false, false
		case "jump":
			follows = false
		case "if", "count", "take":
		default:
			led = false
		}
		if follows || led {
			next = append(next, b)
		}
	}
	return next
}

// slowStep is what becomes of one variable on the way from an instruction to
// another one, if there was an end, or none.
func slowStep(p api.Proc, i, to, v int, end bool) bool {
	for _, a := range slowActs(p, i) {
		switch {
		case a.Var != v, a.What == api.ActUse:
		case a.What == api.ActBind:
			end = end || p.Ins[i].Op != api.InTake || to == i+1
		default:
			end = false
		}
	}
	return end
}

// spot is a place where a variable has an end, or none.
type spot struct {
	at  int
	end bool
}

// slowSpots goes from the beginning of a Proc to all spots of a variable.
func slowSpots(p api.Proc, v int) map[spot]bool {
	found := map[spot]bool{}
	var visit func(s spot)
	visit = func(s spot) {
		if found[s] {
			return
		}
		found[s] = true
		for _, to := range slowNext(p, s.at) {
			visit(spot{to, slowStep(p, s.at, to, v, s.end)})
		}
	}
	if len(p.Ins) > 0 && slowIsEnd(p, v) {
		visit(spot{0, v < p.Params})
	}
	return found
}

// slowStates asks variable by variable, without joining anything.
func slowStates(p api.Proc) [][]int {
	states := make([][]int, len(p.Ins))
	for i := range states {
		states[i] = make([]int, len(p.Vars))
	}
	for v := range p.Vars {
		for s := range slowSpots(p, v) {
			if s.end {
				states[s.at][v] += 2
			} else {
				states[s.at][v]++
			}
		}
	}
	return states
}

// slowNotes tries each act with an end and without one, as far as that may be.
func slowNotes(p api.Proc, states [][]int) []api.Note {
	var notes []api.Note
	for i := range p.Ins {
		acts := slowActs(p, i)
		for k, a := range acts {
			var ends, nones int
			for n, end := range []bool{false, true} {
				if states[i][a.Var]&(1<<n) == 0 {
					continue
				}
				for _, ahead := range acts[:k] {
					if ahead.Var == a.Var && ahead.What != api.ActUse {
						end = ahead.What == api.ActBind
					}
				}
				if end {
					ends++
				} else {
					nones++
				}
			}
			if rule := slowRule(a.What, ends > 0, nones > 0); rule > 0 {
				notes = append(notes, api.Note{Rule: rule, At: i, Var: a.Var})
			}
		}
	}
	return notes
}

func slowRule(what int, end, none bool) int {
	wants := what == api.ActUse || what == api.ActDrop
	switch {
	case wants && none && end:
		return api.RuleMaybe
	case wants && none:
		return api.RuleGone
	case what == api.ActBind && end:
		return api.RuleKept
	case what == api.ActOver && end:
		return api.RuleLeft
	}
	return 0
}
