package own

import (
	"pipewright/api"
	"pipewright/paths"
)

// act is one of the instruction at.
type act struct {
	api.Act
	at int
}

// course is a Proc as ends go through it. Its variables are in bands: what
// becomes of one hangs on no other one, so that each band is gone through for
// itself, in as little memory as one band needs.
type course struct {
	api.Proc
	next  [][]int // what comes of each instruction
	acts  []act   // of all instructions, in order
	bands [][]int // for each band the numbers of its acts
}

func newCourse(p api.Proc) *course {
	c := &course{Proc: p, next: make([][]int, len(p.Ins)), bands: make([][]int, (len(p.Vars)+width-1)/width)}
	for i := range p.Ins {
		c.next[i] = paths.Next(p, i)
		for _, a := range Acts(p, i) {
			b := a.Var / width
			c.bands[b] = append(c.bands[b], len(c.acts))
			c.acts = append(c.acts, act{a, i})
		}
	}
	return c
}

// ahead tells what may be ahead of each instruction, of a band: the sets are
// joined along all ways till nothing more comes. A set only grows, so that it
// ends, however many ways there are.
func (c *course) ahead(b int) []set {
	sets := make([]set, len(c.Ins))
	if len(sets) == 0 {
		return sets
	}
	turns := c.turns(b)
	sets[0] = c.first(b)
	wave, later := []int{0}, []int{}
	for len(wave) > 0 {
		for _, i := range wave {
			for _, to := range c.next[i] {
				s := join(sets[to], c.along(i, to, turns[i], sets[i]))
				if s != sets[to] {
					sets[to] = s
					later = append(later, to)
				}
			}
		}
		wave, later = later, wave[:0]
	}
	return sets
}

// first is what there is ahead of all.
func (c *course) first(b int) set {
	var s set
	for v := b * width; v < min((b+1)*width, len(c.Vars)); v++ {
		switch {
		case !isEnd(c.Proc, v):
		case v < c.Params:
			s = join(s, place(v, has))
		default:
			s = join(s, place(v, lacks))
		}
	}
	return s
}

func (c *course) turns(b int) []turn {
	turns := make([]turn, len(c.Ins))
	for _, k := range c.bands[b] {
		a := c.acts[k]
		turns[a.at] = turns[a.at].and(a.Act)
	}
	return turns
}

// along is what an instruction makes of a set, as it goes on to another one:
// InTake, whose turn is its bind alone, binds on the way to the next one only.
func (c *course) along(i, to int, t turn, s set) set {
	if c.Ins[i].Op == api.InTake && to != i+1 {
		return s
	}
	return t.behind(s)
}

// judge lays the rules that a band's acts break at the numbers of these acts.
func (c *course) judge(b int, broken []int) {
	if len(c.bands[b]) == 0 {
		return
	}
	sets := c.ahead(b)
	for _, k := range c.bands[b] {
		a := c.acts[k]
		s := sets[a.at]
		if s == 0 { // no way comes there
			continue
		}
		broken[k] = rule(a.What, s.of(a.Var))
		// The next act of this instruction is seen behind this one.
		sets[a.at] = turn{}.and(a.Act).behind(s)
	}
}
