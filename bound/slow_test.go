package bound

import (
	"fmt"
	"slices"
	"testing"

	"pipewright/api"
	"pipewright/tree"
)

// slowTerm is what an E or an N hangs on: another one, so many times.
type slowTerm struct{ of, times int }

// slowCell is an E or an N: a number, and a sum.
type slowCell struct {
	fixed int
	terms []slowTerm
}

// slowBook does word by word what the chapter says of E and N. Its cells are the
// blocks of the tasks, and behind them the channels.
type slowBook struct {
	c      api.Code
	g      api.Tree
	firsts []int // for each task the cell of its block 0, and that of the channel 0
	cells  []slowCell
	now    []int
	capped []bool
}

func newSlowBook(c api.Code, g api.Tree, inputs int) *slowBook {
	b := &slowBook{c: c, g: g, firsts: []int{0}}
	for task := range g.Tasks {
		b.firsts = append(b.firsts, b.firsts[task]+len(b.proc(task).Blocks))
	}
	for task := range g.Tasks {
		for number := range b.proc(task).Blocks {
			b.cells = append(b.cells, b.ofBlock(task, number))
		}
	}
	for site := range g.Sites {
		b.cells = append(b.cells, b.ofSite(site, inputs))
	}
	b.now, b.capped = make([]int, len(b.cells)), make([]bool, len(b.cells))
	return b
}

func (b *slowBook) proc(task int) api.Proc { return b.c.Procs[b.g.Tasks[task].Stage] }

func (b *slowBook) block(task, number int) int { return b.firsts[task] + number }

func (b *slowBook) site(number int) int { return b.firsts[len(b.g.Tasks)] + number }

func (b *slowBook) ofBlock(task, number int) slowCell {
	node, block := b.g.Tasks[task], b.proc(task).Blocks[number]
	switch parent := b.block(task, block.Parent); kinds[block.Kind] {
	case "for":
		var cell slowCell
		for _, site := range b.g.May[task][block.A] {
			cell.terms = append(cell.terms, slowTerm{b.site(site), 1})
		}
		return cell
	case "repeat":
		return slowCell{terms: []slowTerm{{parent, block.N}}}
	case "then", "else":
		return slowCell{terms: []slowTerm{{parent, 1}}}
	}
	if task == 0 {
		return slowCell{fixed: 1}
	}
	at := b.proc(node.Parent).Ins[node.At].Block
	return slowCell{terms: []slowTerm{{b.block(node.Parent, at), 1}}}
}

func (b *slowBook) ofSite(site, inputs int) slowCell {
	if site == 0 {
		return slowCell{fixed: min(inputs, api.Cap)}
	}
	var cell slowCell
	for task := range b.g.Tasks {
		for _, ins := range b.proc(task).Ins {
			word := words[ins.Op]
			if (word == "send" || word == "give") && slices.Contains(b.g.May[task][ins.A], site) {
				cell.terms = append(cell.terms, slowTerm{b.block(task, ins.Block), 1})
			}
		}
	}
	return cell
}

// anew makes all at once anew out of what they were, and tells which ones that
// changed.
func (b *slowBook) anew() []bool {
	next, changed := make([]int, len(b.cells)), make([]bool, len(b.cells))
	for k, cell := range b.cells {
		next[k] = cell.fixed
		for _, term := range cell.terms {
			next[k] = min(next[k]+min(b.now[term.of]*term.times, api.Cap), api.Cap)
		}
		if b.capped[k] {
			next[k] = api.Cap
		}
		changed[k] = next[k] != b.now[k]
	}
	b.now = next
	return changed
}

// goOver makes all anew so many times; those that the last time changed are Cap
// from then on.
func (b *slowBook) goOver(times int) {
	changed := make([]bool, len(b.cells))
	for range times {
		changed = b.anew()
	}
	for k, is := range changed {
		if is {
			b.capped[k], b.now[k] = true, api.Cap
		}
	}
}

func (b *slowBook) things() []int { return slices.Clone(b.now[b.site(0):]) }

func (b *slowBook) steps() int {
	sum := 0
	add := func(cell int) { sum = min(sum+b.now[cell], api.Cap) }
	for task := range b.g.Tasks {
		for _, ins := range b.proc(task).Ins {
			add(b.block(task, ins.Block))
			if ins.Loop != 0 {
				add(b.block(task, ins.Loop))
			}
			if words[ins.Op] == "drain" {
				for _, site := range b.g.May[task][ins.A] {
					add(b.site(site))
				}
			}
		}
	}
	return sum
}

// answer is all that is told of one code.
type answer struct {
	steps             int
	things            []int
	noSteps, noThings api.Fault
}

func answers(c api.Code, inputs int) answer {
	var a answer
	a.steps, a.noSteps = Steps(c, inputs)
	a.things, a.noThings = Things(c, inputs)
	return a
}

func slowAnswers(c api.Code, inputs int) answer {
	return slowAnswersBy(c, inputs, func(b *slowBook) {
		b.goOver(len(b.cells) + 1)
		b.goOver(len(b.cells) + 1)
	})
}

// slowAnswersBy goes over all by another way than the chapter's.
func slowAnswersBy(c api.Code, inputs int, goOver func(b *slowBook)) answer {
	if f := fault(api.ErrRange, -1); inputs < 0 {
		return answer{noSteps: f, noThings: f}
	}
	g, f := tree.Grow(c)
	if f.Code != 0 {
		return answer{noSteps: f, noThings: f}
	}
	b := newSlowBook(c, g, inputs)
	goOver(b)
	return answer{steps: b.steps(), things: b.things()}
}

// alike takes nil and empty lists for the same.
func alike(a, b answer) bool { return fmt.Sprint(a) == fmt.Sprint(b) }

// wantSecond asks for what the chapter's words tell, and gives it.
func wantSecond(t *testing.T, c api.Code, inputs int) answer {
	t.Helper()
	want, got := slowAnswers(c, inputs), answers(c, inputs)
	if !alike(got, want) {
		t.Fatalf("of %s with %d:\n%s, want\n%s", said(c), inputs, shown(got), shown(want))
	}
	return want
}
