package ranks

import "slices"

// none stands ahead of what is not come to, and of what a way begins with.
const none = -1

// graph has for each node those that its edges lead to, rising, each once.
type graph [][]int

func newGraph(n int, edges [][2]int) graph {
	sorted := slices.Clone(edges)
	slices.SortFunc(sorted, func(a, b [2]int) int { return slices.Compare(a[:], b[:]) })
	g := make(graph, n)
	for _, e := range slices.Compact(sorted) {
		g[e[0]] = append(g[e[0]], e[1])
	}
	return g
}

// ranks settles a node once all edges to it have been gone along, as its
// longest way is known then; and tells whether all nodes were settled: those of
// a round, and those behind it, never are.
func (g graph) ranks() (ranks []int, all bool) {
	ranks = make([]int, len(g))
	open := g.comers()
	var settled []int
	look := func(node int) {
		if open[node] == 0 {
			settled = append(settled, node)
		}
	}
	for node := range g {
		look(node)
	}
	for k := 0; k < len(settled); k++ {
		from := settled[k]
		for _, to := range g[from] {
			ranks[to] = max(ranks[to], ranks[from]+1)
			open[to]--
			look(to)
		}
	}
	return ranks, len(settled) == len(g)
}

// comers counts for each node the edges that come to it.
func (g graph) comers() []int {
	counts := make([]int, len(g))
	for _, tos := range g {
		for _, to := range tos {
			counts[to]++
		}
	}
	return counts
}

// round takes each node as the least one of a round: of several as short the
// one that is found first begins with the least node.
func (g graph) round() []int {
	var best []int
	for least := range g {
		found := g.roundOf(least)
		if found != nil && (best == nil || len(found) < len(best)) {
			best = found
		}
	}
	return best
}

// roundOf goes from a node to those above it, the nearest first, till an edge
// leads back. Those that are as near are gone on from in the order of their
// ways, and what each of them leads to is rising, so that of several rounds as
// short the one with the least nodes is come upon first.
func (g graph) roundOf(least int) []int {
	ahead := slices.Repeat([]int{none}, len(g))
	line := []int{least}
	for k := 0; k < len(line); k++ {
		node := line[k]
		for _, to := range g[node] {
			if to == least {
				return wayTo(ahead, node)
			}
			if to > least && ahead[to] == none {
				ahead[to] = node
				line = append(line, to)
			}
		}
	}
	return nil
}

func wayTo(ahead []int, last int) []int {
	var way []int
	for node := last; node != none; node = ahead[node] {
		way = append(way, node)
	}
	slices.Reverse(way)
	return way
}
