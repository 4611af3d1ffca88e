package order

import (
	"cmp"
	"fmt"
	"slices"
	"strings"
	"testing"

	"pipewright/api"
	"pipewright/own"
	"pipewright/ranks"
	"pipewright/tree"
)

// slowWait is one that has not been given its nodes yet.
type slowWait struct{ task, at, y, x, ofY, ofX int }

// slowFor tells what an instruction may wait for, or -1.
func slowFor(ins api.Ins) int {
	field := map[string]int{"send": ins.A, "give": ins.A, "drain": ins.A, "take": ins.B}
	if x, is := field[words[ins.Op]]; is {
		return x
	}
	return -1
}

// slowHeld tells the other variables that may have an end as an instruction of a
// stage waits; none where it waits for none.
func slowHeld(p api.Proc, states [][]int, i int) []int {
	var held []int
	for y, state := range states[i] {
		if x := slowFor(p.Ins[i]); x >= 0 && y != x && state > 1 {
			held = append(held, y)
		}
	}
	return held
}

// slowWaits goes through all channels and variables first, and sorts then.
func slowWaits(c api.Code, g api.Tree) []api.Wait {
	var found []slowWait
	var states [][][]int
	for _, p := range c.Procs {
		states = append(states, own.States(p))
	}
	for ofX := len(g.Sites) - 1; ofX >= 0; ofX-- {
		for task, node := range g.Tasks {
			p := c.Procs[node.Stage]
			for i, ins := range p.Ins {
				x := slowFor(ins)
				for _, y := range slowHeld(p, states[node.Stage], i) {
					for _, ofY := range g.May[task][y] {
						if slices.Contains(g.May[task][x], ofX) {
							found = append(found, slowWait{task, i, y, x, ofY, ofX})
						}
					}
				}
			}
		}
	}
	slices.SortFunc(found, func(a, b slowWait) int {
		return cmp.Or(a.task-b.task, a.at-b.at, a.y-b.y, a.ofY-b.ofY, a.ofX-b.ofX)
	})
	var waits []api.Wait
	for _, w := range found {
		vars := c.Procs[g.Tasks[w.task].Stage].Vars
		from := 2*w.ofY + strings.Index("rs", vars[w.y].T[:1])
		to := 2*w.ofX + strings.Index("sr", vars[w.x].T[:1])
		waits = append(waits, api.Wait{From: from, To: to, Task: w.task, At: w.at, Held: w.y, On: w.x})
	}
	return waits
}

// slowRanks lays a rank above all that lead to it, till nothing changes any
// more; false: there is no end of it.
func slowRanks(n int, edges map[[2]int]int) ([]int, bool) {
	list := make([]int, n)
	for range n + 1 {
		changed := false
		for e := range edges {
			if list[e[1]] <= list[e[0]] {
				list[e[1]], changed = list[e[0]]+1, true
			}
		}
		if !changed {
			return list, true
		}
	}
	return nil, false
}

func slowJudge(c api.Code, g api.Tree, waits []api.Wait) api.Verdict {
	v := api.Verdict{}
	for _, p := range c.Procs {
		v.Notes = append(v.Notes, own.Notes(p))
	}
	firsts := map[[2]int]int{}
	var edges [][2]int
	for k := len(waits) - 1; k >= 0; k-- {
		e := [2]int{waits[k].From, waits[k].To}
		if _, is := firsts[e]; !is {
			edges = append(edges, e)
		}
		firsts[e] = k
	}
	list, is := slowRanks(2*len(g.Sites), firsts)
	if is {
		v.Ranks = list
		return v
	}
	round, _ := ranks.Round(2*len(g.Sites), edges)
	for k := range round {
		e := [2]int{round[k], append(round, round[0])[k+1]}
		v.Round = append(v.Round, waits[firsts[e]])
	}
	return v
}

// slowNarrow asks one thing after the other.
func slowNarrow(c api.Code, g api.Tree) bool {
	for _, p := range c.Procs {
		if len(own.Notes(p)) > 0 {
			return false
		}
	}
	edges := map[[2]int]int{}
	for task, node := range g.Tasks {
		p := c.Procs[node.Stage]
		states := own.States(p)
		for i, ins := range p.Ins {
			held := slowHeld(p, states, i)
			if len(held) > 1 {
				return false
			}
			for _, y := range held {
				x := slowFor(ins)
				switch p.Vars[y].T[:1] + p.Vars[x].T[:1] {
				case "ss", "rr":
					return false
				case "sr":
					x, y = y, x
				}
				for _, received := range g.May[task][y] {
					for _, sent := range g.May[task][x] {
						edges[[2]int{received, sent}]++
					}
				}
			}
		}
	}
	_, is := slowRanks(len(g.Sites), edges)
	return is
}

// answer is all that is told of one code.
type answer struct {
	waits              []api.Wait
	tree               api.Tree
	verdict            api.Verdict
	narrow             bool
	noWaits, no, noWay api.Fault
}

func answers(c api.Code) answer {
	var a answer
	a.waits, a.tree, a.noWaits = Waits(c)
	a.verdict, a.no = Judge(c)
	a.narrow, a.noWay = Narrow(c)
	return a
}

func slowAnswers(c api.Code) answer {
	g, f := tree.Grow(c)
	if f.Code != 0 {
		return answer{noWaits: f, no: f, noWay: f}
	}
	waits := slowWaits(c, g)
	return answer{waits: waits, tree: g, verdict: slowJudge(c, g, waits), narrow: slowNarrow(c, g)}
}

// alike takes nil and empty lists for the same.
func alike(a, b answer) bool { return fmt.Sprint(a) == fmt.Sprint(b) }

// wantSecond asks for what the second way tells, and gives it.
func wantSecond(t *testing.T, c api.Code) answer {
	t.Helper()
	want, got := slowAnswers(c), answers(c)
	if !alike(got, want) {
		t.Fatalf("of %s:\n%s, want\n%s", said(c), shown(got), shown(want))
	}
	return want
}
