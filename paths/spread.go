package paths

import "pipewright/api"

// none stands ahead of what is not come to.
const none = -1

// spread goes from an instruction to all that is come to, the nearest first,
// and tells for each one the one ahead of it on its way from there (for the
// first one itself). Whoever comes to one first is ahead of it: those that are
// as near are gone on from in the order of their ways, and what comes of each
// of them is rising, so that of several ways as short the one with the lower
// number where they differ first is found.
func spread(p api.Proc, from int) []int {
	ahead := make([]int, len(p.Ins))
	for i := range ahead {
		ahead[i] = none
	}
	if !isIns(p, from) {
		return ahead
	}
	ahead[from] = from
	line := []int{from}
	for k := 0; k < len(line); k++ {
		i := line[k]
		onward(p, i, func(to int) {
			if ahead[to] == none {
				ahead[to] = i
				line = append(line, to)
			}
		})
	}
	return ahead
}

func leads(p api.Proc, i, to int) bool {
	found := false
	onward(p, i, func(next int) { found = found || next == to })
	return found
}

// onward hands over what comes of an instruction, rising, each once.
func onward(p api.Proc, i int, found func(to int)) {
	if !isIns(p, i) {
		return
	}
	ins := p.Ins[i]
	next, to := i+1, i+1
	switch ins.Op {
	case api.InExit:
		return
	case api.InJump:
		next, to = ins.To, ins.To
	case api.InIf, api.InCount, api.InTake:
		to = ins.To
	}
	low, high := min(next, to), max(next, to)
	if isIns(p, low) {
		found(low)
	}
	if high != low && isIns(p, high) {
		found(high)
	}
}

func isIns(p api.Proc, i int) bool { return i >= 0 && i < len(p.Ins) }
