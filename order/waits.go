package order

import (
	"slices"

	"pipewright/api"
)

func (p post) wait(from, to, held int) api.Wait {
	return api.Wait{From: from, To: to, Task: p.task, At: p.at, Held: held, On: p.on}
}

// waits are counted ahead: there may be so many that a list that grows would
// take far more memory than they do.
func (s *scene) waits() []api.Wait {
	many := 0
	s.each(func(p post) {
		tos := s.tos(p).count()
		for _, held := range p.others() {
			many += s.froms(p, held).count() * tos
		}
	})
	list := make([]api.Wait, 0, many)
	s.each(func(p post) {
		tos := s.tos(p).list()
		for _, held := range p.others() {
			for _, from := range s.froms(p, held).list() {
				for _, to := range tos {
					list = append(list, p.wait(from, to, held))
				}
			}
		}
	})
	return list
}

// firsts are the first waits of each From and To, in order. There may be far
// more waits than could be gone through one by one; but at one post all that
// come from a node are new with the first variable that they come from, or never.
func (s *scene) firsts() []api.Wait {
	var list []api.Wait
	var known [2 * api.MaxSites]nodes // for each From the To that were come upon
	s.each(func(p post) {
		var seen nodes
		tos := s.tos(p)
		for _, held := range p.others() {
			froms := s.froms(p, held) &^ seen
			seen |= froms
			for _, from := range froms.list() {
				for _, to := range (tos &^ known[from]).list() {
					list = append(list, p.wait(from, to, held))
				}
				known[from] |= tos
			}
		}
	})
	return list
}

func edgesOf(waits []api.Wait) [][2]int {
	edges := make([][2]int, len(waits))
	for k, w := range waits {
		edges[k] = [2]int{w.From, w.To}
	}
	return edges
}

// along tells for each edge of a round the wait that is that edge.
func along(round []int, waits []api.Wait) []api.Wait {
	list := make([]api.Wait, len(round))
	for k, from := range round {
		to := round[(k+1)%len(round)]
		list[k] = waits[slices.IndexFunc(waits, func(w api.Wait) bool { return w.From == from && w.To == to })]
	}
	return list
}
