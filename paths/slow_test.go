package paths

import (
	"slices"

	"pipewright/api"
)

// slowComes asks whether b comes of a, by the words of the chapter.
func slowComes(p api.Proc, a, b int) bool {
	n := len(p.Ins)
	if a < 0 || a >= n || b < 0 || b >= n {
		return false
	}
	to := b == p.Ins[a].To
	switch p.Ins[a].Op {
	case api.InExit:
		return false
	case api.InJump:
		return to
	case api.InIf, api.InCount, api.InTake:
		return to || b == a+1
	}
	return b == a+1
}

func slowNext(p api.Proc, i int) []int {
	var all []int
	for b := range p.Ins {
		if slowComes(p, i, b) {
			all = append(all, b)
		}
	}
	return all
}

// slowWays goes along all ways from an instruction of at most so many
// instructions.
func slowWays(p api.Proc, from, most int) [][]int {
	var all [][]int
	level := [][]int{{from}}
	for range most {
		all = append(all, level...)
		var longer [][]int
		for _, way := range level {
			for _, b := range slowNext(p, way[len(way)-1]) {
				longer = append(longer, append(slices.Clone(way), b))
			}
		}
		level = longer
	}
	return all
}

// tellsFirst: is a the one to tell, of two ways?
func tellsFirst(a, b []int) bool {
	return len(a) < len(b) || len(a) == len(b) && slices.Compare(a, b) < 0
}

// slowBest tells for each instruction the way to it that is to be told, of
// those ways.
func slowBest(ways [][]int) map[int][]int {
	best := map[int][]int{}
	for _, way := range ways {
		to := way[len(way)-1]
		if old, is := best[to]; !is || tellsFirst(way, old) {
			best[to] = way
		}
	}
	return best
}

// slowPath is for long Procs: it reckons how far each one is from the last of
// the way, again and again till nothing changes, and goes then from the first
// one down to it, each time to the lowest one that is nearer.
func slowPath(p api.Proc, from, to int) []int {
	n := len(p.Ins)
	if from < 0 || from >= n || to < 0 || to >= n {
		return nil
	}
	far := slices.Repeat([]int{n}, n)
	far[to] = 0
	for changed := true; changed; {
		changed = false
		for a := range n {
			for _, b := range []int{a + 1, p.Ins[a].To} {
				if slowComes(p, a, b) && far[b]+1 < far[a] {
					far[a], changed = far[b]+1, true
				}
			}
		}
	}
	if far[from] == n {
		return nil
	}
	way := []int{from}
	for at := from; at != to; {
		lowest := n
		for _, b := range []int{at + 1, p.Ins[at].To} {
			if slowComes(p, at, b) && far[b] == far[at]-1 {
				lowest = min(lowest, b)
			}
		}
		at = lowest
		way = append(way, at)
	}
	return way
}
