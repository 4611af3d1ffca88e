package ranks

import "slices"

// table tells whether there is an edge from one node to another one.
func table(n int, edges [][2]int) [][]bool {
	has := make([][]bool, n)
	for node := range has {
		has[node] = make([]bool, n)
	}
	for _, edge := range edges {
		has[edge[0]][edge[1]] = true
	}
	return has
}

// slowRounds tells all rounds, each seen from its least node on: it goes along
// all ways from each node that come to no node twice.
func slowRounds(n int, edges [][2]int) [][]int {
	has := table(n, edges)
	var all [][]int
	var extend func(way []int)
	extend = func(way []int) {
		last := way[len(way)-1]
		if has[last][way[0]] {
			all = append(all, seenFromLeast(way))
		}
		for to := range n {
			if has[last][to] && !slices.Contains(way, to) {
				extend(append(slices.Clone(way), to))
			}
		}
	}
	for node := range n {
		extend([]int{node})
	}
	return all
}

func seenFromLeast(round []int) []int {
	k := slices.Index(round, slices.Min(round))
	return slices.Concat(round[k:], round[:k])
}

// tellsFirst: is a the one to tell, of two rounds?
func tellsFirst(a, b []int) bool {
	return len(a) < len(b) || len(a) == len(b) && slices.Compare(a, b) < 0
}

func slowBest(rounds [][]int) []int {
	var best []int
	for _, round := range rounds {
		if best == nil || tellsFirst(round, best) {
			best = round
		}
	}
	return best
}

// slowRanks asks for each length where ways of just so many edges lead. A way
// of n edges comes to some node twice: there are no ranks then.
func slowRanks(n int, edges [][2]int) ([]int, bool) {
	ranks := make([]int, n)
	ends := slices.Repeat([]bool{true}, n)
	for length := 1; length <= n; length++ {
		next := make([]bool, n)
		for _, edge := range edges {
			if ends[edge[0]] {
				next[edge[1]] = true
				ranks[edge[1]] = length
			}
		}
		ends = next
	}
	return ranks, !slices.Contains(ends, true)
}

// slowRound is for greater graphs: it reckons how far each node is from each
// other one, and goes then from the least node of a shortest round back to it,
// each time to the least node that is as much nearer as it must be.
func slowRound(n int, edges [][2]int) []int {
	has := table(n, edges)
	far := distances(has)
	length, first := n+1, 0
	for node := range n {
		if far[node][node] < length {
			length, first = far[node][node], node
		}
	}
	if length > n {
		return nil
	}
	round := []int{first}
	for left := length - 1; left > 0; left-- {
		last := round[len(round)-1]
		for to := range n {
			if has[last][to] && far[to][first] == left {
				round = append(round, to)
				break
			}
		}
	}
	return round
}

// distances count edges, at least one from a node to itself; n + 1: no way.
func distances(has [][]bool) [][]int {
	n := len(has)
	far := make([][]int, n)
	for a := range n {
		far[a] = slices.Repeat([]int{n + 1}, n)
		for b := range n {
			if has[a][b] {
				far[a][b] = 1
			}
		}
	}
	for by := range n {
		for a := range n {
			if far[a][by] > n {
				continue
			}
			for b, more := range far[by] {
				far[a][b] = min(far[a][b], far[a][by]+more)
			}
		}
	}
	return far
}
