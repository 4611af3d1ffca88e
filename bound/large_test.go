package bound

import (
	"fmt"
	"slices"
	"testing"

	"pipewright/api"
)

// fill lays instructions ahead of the last one, and blocks, as many as there may
// be.
func fill(p api.Proc, block func(number int) api.Block, ins func(i int) api.Ins) api.Proc {
	for len(p.Blocks) < api.MaxIns {
		p.Blocks = append(p.Blocks, block(len(p.Blocks)))
	}
	last := p.Ins[len(p.Ins)-1]
	p.Ins = p.Ins[:len(p.Ins)-1]
	for len(p.Ins) < api.MaxIns-1 {
		p.Ins = append(p.Ins, ins(len(p.Ins)))
	}
	p.Ins = append(p.Ins, last)
	return p
}

// manyTasks has 29 tasks of a stage that is handed both ends of 29 channels, and
// what else main does.
func manyTasks(below api.Proc, more string) api.Code {
	return code(below, proc("ri si ri", 1, "", rep("chan 1 2;", 29)+rep("spawn 0 1 2;", 29)+more))
}

func thenAbove(number int) api.Block { return api.Block{Kind: api.BlockThen, Parent: number - 1} }

// P1: 60000 E's in a row, block within block and task after task: none of them
// is Cap.
func TestLargeRow(t *testing.T) {
	below := fill(proc("si ri", 2, "", ""), thenAbove, func(i int) api.Ins { return api.Ins{Op: api.InEmit, E: one(), Block: i} })
	inTime(t, "a row", func() {
		wantSteps(t, manyTasks(below, ""), 5, 59+29*api.MaxIns)
		wantThings(t, manyTasks(below, ""), 5, append([]int{5}, make([]int, 29)...)...)
	})
	c := api.Code{Main: 9}
	for stage := range 10 {
		p := fill(proc("ri", 1, "", ""), thenAbove, func(i int) api.Ins { return api.Ins{Op: api.InEmit, E: one(), Block: api.MaxIns - 1} })
		if stage > 0 {
			p.Ins[7] = api.Ins{Op: api.InSpawn, A: stage - 1, Args: []api.Arg{{V: 0}}, Block: api.MaxIns - 1}
		}
		c.Procs = append(c.Procs, p)
	}
	inTime(t, "a row of stages", func() { wantSteps(t, c, 5, 10*api.MaxIns) })
}

// P1: all that there may be of tasks, blocks, instructions and channels, each
// for and each send of 29 channels: a round of all of them.
func TestLargeRounds(t *testing.T) {
	below := fill(proc("si ri", 2, "", ""),
		func(number int) api.Block { return api.Block{Kind: api.BlockFor, Parent: number - 1, A: 1} },
		func(i int) api.Ins { return api.Ins{Op: api.InSend, A: 0, E: one(), Block: 1 + i%(api.MaxIns-1)} })
	inTime(t, "no round", func() {
		wantThings(t, manyTasks(below, ""), 5, append([]int{5}, make([]int, 29)...)...)
		wantSteps(t, manyTasks(below, ""), 5, 59+29)
	})
	inTime(t, "a round", func() {
		wantThings(t, manyTasks(below, "send 1"), 5, append([]int{5}, manyTimes(29, api.Cap)...)...)
		wantSteps(t, manyTasks(below, "send 1"), 5, api.Cap)
	})
}

// P1: a round that grows by one alone, each time that it is gone round, through
// as many blocks as there may be.
func TestLargeSlowRound(t *testing.T) {
	below := fill(proc("si ri", 2, "for 0 1", ""), thenAbove, func(i int) api.Ins { return api.Ins{Op: api.InEmit, E: one(), Block: i} })
	below.Ins[api.MaxIns-1].Block = api.MaxIns - 1
	below.Ins[api.MaxIns-2] = api.Ins{Op: api.InSend, A: 0, E: one(), Block: api.MaxIns - 1}
	types, said := "ri", ""
	for k := range 29 {
		types += " si ri"
		said += fmt.Sprintf("chan %d %d;", 1+2*k, 2+2*k)
	}
	for k := range 29 {
		said += fmt.Sprintf("spawn 0 %d %d;", 1+2*((k+1)%29), 2+2*k)
	}
	inTime(t, "a slow round", func() {
		wantThings(t, code(below, proc(types, 1, "", said)), 5, append([]int{5}, make([]int, 29)...)...)
		wantThings(t, code(below, proc(types, 1, "", said+"send 11")), 5, append([]int{5}, manyTimes(29, api.Cap)...)...)
		wantSteps(t, code(below, proc(types, 1, "", said+"send 11")), 5, api.Cap)
	})
}

// P1: numbers that are exact as long as they are below Cap, of the greatest code.
func TestLargeSums(t *testing.T) {
	below := fill(proc("si ri", 2, "", ""),
		func(number int) api.Block { return api.Block{Kind: api.BlockRepeat, Parent: 0, N: 6} },
		func(i int) api.Ins { return api.Ins{Op: api.InSend, A: 0, E: one(), Block: 1 + i%(api.MaxIns-1)} })
	each := 29 * 6 * (api.MaxIns - 1)
	inTime(t, "sums", func() {
		wantThings(t, manyTasks(below, ""), 5, append([]int{5}, manyTimes(29, each)...)...)
		wantSteps(t, manyTasks(below, ""), 5, 59+each+29)
	})
	drains := below
	drains.Ins = slices.Clone(below.Ins)
	for i := range drains.Ins[:api.MaxIns/2] {
		drains.Ins[i] = api.Ins{Op: api.InDrain, A: 1}
	}
	half := 29 * 6 * (api.MaxIns - 1 - api.MaxIns/2)
	inTime(t, "drains", func() {
		wantThings(t, manyTasks(drains, ""), 5, append([]int{5}, manyTimes(29, half)...)...)
		wantSteps(t, manyTasks(drains, ""), 5, 59+half+29+29*api.MaxIns/2*(1+29*half))
	})
}
