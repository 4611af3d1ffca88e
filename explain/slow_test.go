package explain

import (
	"slices"
	"strings"

	"pipewright/api"
)

// slowTable is chapter 8's table, as it stands.
const slowTable = `
chan: bind A, bind B
clone: use B, bind A
send: use A
give: use A, drop B
close: drop A
abandon: drop A
drain: drop A
take: use B, bind A
over: over A`

// slowRows are its rows, each at the number of its Op, word by word.
var slowRows = func() [18][][2]string {
	var rows [18][][2]string
	for line := range strings.Lines(slowTable) {
		op, row, _ := strings.Cut(strings.TrimSpace(line), ": ")
		for said := range strings.SplitSeq(row, ", ") {
			if what, of, is := strings.Cut(said, " "); is {
				k := slices.Index(words, op)
				rows[k] = append(rows[k], [2]string{what, of})
			}
		}
	}
	return rows
}()

// slowActs reads off the table what an instruction does to a variable of an
// end.
func slowActs(p api.Proc, i, v int) []string {
	ins := p.Ins[i]
	var acts []string
	if ins.Op >= 0 && ins.Op < len(slowRows) {
		for _, said := range slowRows[ins.Op] {
			if said[1] == "A" && ins.A == v || said[1] == "B" && ins.B == v {
				acts = append(acts, said[0])
			}
		}
	}
	if ins.Op == api.InSpawn {
		for _, arg := range ins.Args {
			if len(arg.E) < 1 && arg.V == v {
				acts = append(acts, "drop")
			}
		}
	}
	return acts
}

// slowNext is chapter 7's.
func slowNext(p api.Proc, i int) []int {
	var next []int
	for k := range p.Ins {
		follows, led := k == i+1, k == p.Ins[i].To
		switch word(p.Ins[i].Op) {
		case "exit":
			follows, led = false, false
		case "jump":
			follows = false
		case "if", "count", "take":
		default:
			led = false
		}
		if follows || led {
			next = append(next, k)
		}
	}
	return next
}

// slowAfter is whether the end is there behind an instruction on the way to
// another one, as it was ahead of it.
func slowAfter(p api.Proc, i, to, v int, end bool) bool {
	for _, what := range slowActs(p, i, v) {
		switch what {
		case "drop", "over":
			end = false
		case "bind":
			if p.Ins[i].Op != api.InTake || to == i+1 {
				end = true
			}
		}
	}
	return end
}

func slowIsNote(p api.Proc, n api.Note) bool {
	is := false
	for i := range p.Ins {
		for v := range p.Vars {
			is = is || i == n.At && v == n.Var && len(p.Vars[v].T) >= 2
		}
	}
	return is && slices.Contains(rules, n.Rule)
}

// slowShows: at At, with an end or without one.
func slowShows(p api.Proc, n api.Note, end bool) bool {
	for _, what := range slowActs(p, n.At, n.Var) {
		switch n.Rule {
		case api.RuleKept:
			if what == "bind" && end {
				return true
			}
		case api.RuleLeft:
			if what == "over" && end {
				return true
			}
		default:
			if (what == "use" || what == "drop") && !end {
				return true
			}
		}
		if what == "drop" || what == "over" {
			end = false
		}
	}
	return false
}

// slowBegins: do a way's first two stand as they must?
func slowBegins(p api.Proc, v, first, second int) bool {
	if first == -1 {
		return v < p.Params && second == 0 && len(p.Ins) > 0
	}
	if first < 0 || first >= len(p.Ins) || !slices.Contains(slowActs(p, first, v), "bind") {
		return false
	}
	return slices.Contains(slowNext(p, first), second) && slowAfter(p, first, second, v, false)
}

// slowHolds goes by the chapter's words.
func slowHolds(p api.Proc, n api.Note, way []int) bool {
	if !slowIsNote(p, n) || len(way) < 2 || !slowBegins(p, n.Var, way[0], way[1]) {
		return false
	}
	end := true
	for k := 2; k < len(way); k++ {
		if !slices.Contains(slowNext(p, way[k-1]), way[k]) {
			return false
		}
		end = slowAfter(p, way[k-1], way[k], n.Var, end)
	}
	return way[len(way)-1] == n.At && slowShows(p, n, end)
}

// far is more than any way that is asked for has.
const far = 1 << 40

// slowFar tells, from the end on, how many instructions a way from an
// instruction (with an end ahead of it: 1, or none: 0) must have to show it.
func slowFar(p api.Proc, n api.Note) [][2]int {
	need := slices.Repeat([][2]int{{far, far}}, len(p.Ins))
	for k, end := range []bool{false, true} {
		if slowShows(p, n, end) {
			need[n.At][k] = 1
		}
	}
	for changes := true; changes; {
		changes = false
		for i := range p.Ins {
			for k, end := range []bool{false, true} {
				for _, to := range slowNext(p, i) {
					if d := 1 + need[to][one(slowAfter(p, i, to, n.Var, end))]; d < need[i][k] {
						need[i][k] = d
						changes = true
					}
				}
			}
		}
	}
	return need
}

func one(end bool) int {
	if end {
		return 1
	}
	return 0
}

// slowWhy knows from slowFar how far it is from each first one, and takes, one
// by one, the lowest number from which it is as near as can be.
func slowWhy(p api.Proc, n api.Note) ([]int, api.Fault) {
	if !slowIsNote(p, n) {
		return nil, fault(api.ErrRange, -1)
	}
	need := slowFar(p, n)
	least, way := far, []int{}
	for first := -1; first < len(p.Ins); first++ {
		for second := range p.Ins {
			if slowBegins(p, n.Var, first, second) && need[second][1] < least {
				least, way = need[second][1], l(first, second)
			}
		}
	}
	if least == far {
		return nil, fault(api.ErrNone, -1)
	}
	for end := true; least > 1; least-- {
		last := way[len(way)-1]
		for _, to := range slowNext(p, last) {
			if then := slowAfter(p, last, to, n.Var, end); need[to][one(then)] == least-1 {
				way, end = append(way, to), then
				break
			}
		}
	}
	return way, api.Fault{}
}
