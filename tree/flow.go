package tree

import (
	"math/bits"

	"pipewright/api"
)

// set has a bit for each channel; there are at most MaxSites.
type set uint64

func only(site int) set { return 1 << site }

// list tells a set's channels, rising.
func (s set) list() []int {
	if s == 0 {
		return nil
	}
	list := make([]int, 0, bits.OnesCount64(uint64(s)))
	for ; s != 0; s &= s - 1 {
		list = append(list, bits.TrailingZeros64(uint64(s)))
	}
	return list
}

// flow is where ends may come to. Its cells are the tasks' variables, and
// behind them, for each channel, what goes through it.
type flow struct {
	firsts []int   // for each task the cell of its first variable, and that of the channel 0
	sets   []set   // for each cell the channels whose ends may come there
	fresh  []set   // of these such as were not handed on yet
	links  [][]int // for each cell those that it hands on to
	gives  [][]int // for each cell those that are sent through its channels
	takes  [][]int // for each cell those that receive from its channels
	news   []int   // the cells with something fresh
}

func newFlow(g *grower) *flow {
	firsts := []int{0}
	cells := 0
	for task := range g.tasks {
		cells += len(g.proc(task).Vars)
		firsts = append(firsts, cells)
	}
	cells += len(g.sites)
	return &flow{
		firsts: firsts,
		sets:   make([]set, cells), fresh: make([]set, cells),
		links: make([][]int, cells), gives: make([][]int, cells), takes: make([][]int, cells),
	}
}

func (f *flow) variable(task, v int) int { return f.firsts[task] + v }

func (f *flow) through(site int) int { return f.firsts[len(f.firsts)-1] + site }

func (f *flow) layTask(task int, p api.Proc) {
	for _, ins := range p.Ins {
		switch ins.Op {
		case api.InClone:
			f.link(f.variable(task, ins.B), f.variable(task, ins.A))
		case api.InGive:
			by := f.variable(task, ins.A)
			f.gives[by] = append(f.gives[by], f.variable(task, ins.B))
		case api.InTake:
			if isEnd(p.Vars[ins.A].T) {
				from := f.variable(task, ins.B)
				f.takes[from] = append(f.takes[from], f.variable(task, ins.A))
			}
		}
	}
}

func isEnd(t string) bool { return len(t) > 1 }

func (f *flow) link(from, to int) {
	f.links[from] = append(f.links[from], to)
	f.join(to, f.sets[from])
}

// join lets in only what is new to a cell, so that it comes to an end.
func (f *flow) join(cell int, s set) {
	s &^= f.sets[cell]
	if s == 0 {
		return
	}
	if f.fresh[cell] == 0 {
		f.news = append(f.news, cell)
	}
	f.sets[cell] |= s
	f.fresh[cell] |= s
}

// run goes on till nothing more comes.
func (f *flow) run() {
	for len(f.news) > 0 {
		cell := f.news[len(f.news)-1]
		f.news = f.news[:len(f.news)-1]
		s := f.fresh[cell]
		f.fresh[cell] = 0
		f.spread(cell, s)
	}
}

// spread hands on what is fresh in a cell: the channels themselves along its
// links, and of each of them what goes through it by new links.
func (f *flow) spread(cell int, s set) {
	for _, to := range f.links[cell] {
		f.join(to, s)
	}
	for _, site := range s.list() {
		for _, given := range f.gives[cell] {
			f.link(given, f.through(site))
		}
		for _, taker := range f.takes[cell] {
			f.link(f.through(site), taker)
		}
	}
}
