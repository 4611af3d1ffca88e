package ranks

import (
	"math/rand"
	"slices"
	"testing"

	"pipewright/api"
)

const most = 1000 // nodes of a graph

// levels has so many levels of so many nodes, and an edge from each node to
// each one of the next level: far more ways than could be gone along.
func levels(count, wide int) [][2]int {
	var edges [][2]int
	for level := range count - 1 {
		for a := range wide {
			for b := range wide {
				edges = append(edges, [2]int{level*wide + a, (level+1)*wide + b})
			}
		}
	}
	return edges
}

// levelRing leads from the last level back to the first one.
func levelRing(count, wide int) [][2]int {
	edges := levels(count, wide)
	for a := range wide {
		for b := range wide {
			edges = append(edges, [2]int{(count-1)*wide + a, b})
		}
	}
	return edges
}

// P1 and P10.2: so many ways that nobody goes along all of them.
func TestManyWays(t *testing.T) {
	for _, s := range []struct{ count, wide int }{{2, 100}, {50, 20}, {100, 10}, {200, 5}, {500, 2}, {334, 2}, {1000, 1}} {
		edges := levels(s.count, s.wide)
		want := make([]int, s.count*s.wide)
		for node := range want {
			want[node] = node / s.wide
		}
		inTime(t, "levels", func() {
			wantRanks(t, len(want), edges, want...)
			slices.Reverse(edges)
			wantRanks(t, len(want), edges, want...)
		})
	}
}

// P1 and P10.3: so many rounds that nobody goes along all of them: of each
// level the least node.
func TestManyRounds(t *testing.T) {
	for _, s := range []struct{ count, wide int }{{1, 100}, {2, 100}, {3, 80}, {49, 20}, {100, 10}, {200, 5}, {500, 2}, {1000, 1}} {
		edges := levelRing(s.count, s.wide)
		var want []int
		for level := range s.count {
			want = append(want, level*s.wide)
		}
		inTime(t, "a ring of levels", func() {
			wantRound(t, s.count*s.wide, edges, want...)
			slices.Reverse(edges)
			wantRound(t, s.count*s.wide, edges, want...)
		})
	}
}

// P10.2: each node leads to each one above it: just as many edges as 200 nodes
// have.
func TestAllEdgesUpward(t *testing.T) {
	const n = 200
	var edges [][2]int
	for a := range n {
		for b := a + 1; b < n; b++ {
			edges = append(edges, [2]int{a, b})
		}
	}
	r := rand.New(rand.NewSource(9))
	inTime(t, "upward", func() {
		wantRanks(t, n, edges, upTo(n)...)
		wantRanks(t, n, shuffled(r, edges), upTo(n)...)
		for _, edge := range e("199>0 199>100 100>99 1>0") {
			closed := append(shuffled(r, edges), edge)
			wantRound(t, n, closed, edge[1], edge[0])
		}
		wantRound(t, n, append(edges, [2]int{150, 150}, [2]int{1, 0}), 150)
	})
}

// P10.2 and P10.3: the greatest graph, and one way through all of its nodes.
func TestGreatest(t *testing.T) {
	r := rand.New(rand.NewSource(10))
	edges := many(api.MaxEdges)
	inTime(t, "the greatest", func() {
		wantRanks(t, most, edges, upTo(most)...)
		wantRanks(t, most, shuffled(r, edges), upTo(most)...)
		down := upTo(most)
		slices.Reverse(down)
		wantRanks(t, most, renamed(down, edges), down...)
		last := len(edges) - 1
		back := slices.Clone(edges)
		back[last] = [2]int{most - 1, 0} // by steps of at most 20
		round, _ := Round(most, back)
		if len(round) < most/21 || len(round) > most/20+2 {
			t.Errorf("a round of %d nodes", len(round))
		}
		wantRound(t, most, back, slowRound(most, back)...)
		back[last] = [2]int{0, 0}
		wantRound(t, most, back, 0)
		back[last] = [2]int{most - 1, most - 1}
		wantRound(t, most, back, most-1)
		back[last] = [2]int{most - 1, most - 2}
		wantRound(t, most, back, most-2, most-1)
	})
}

// P10.3: rounds through all of 1000 nodes.
func TestRoundThroughAll(t *testing.T) {
	r := rand.New(rand.NewSource(11))
	inTime(t, "through all", func() {
		wantRound(t, most, ring(upTo(most)...), upTo(most)...)
		down := upTo(most)
		slices.Reverse(down)
		wantRound(t, most, ring(down...), seenFromLeast(down)...)
		for range 20 {
			nodes := r.Perm(most)
			edges := slices.Repeat(ring(nodes...), 20)
			wantRound(t, most, shuffled(r, edges), seenFromLeast(nodes)...)
		}
	})
}

// P10.3: nodes that lead far, and back by long ways alone: each one must be
// asked, as the last ones have the shortest round.
func TestLastRound(t *testing.T) {
	edges := append(levels(48, 20), ring(upTo(960)...)...)
	inTime(t, "the last ones", func() {
		wantRound(t, most, edges, slowRound(most, edges)...)
		edges = append(edges, e("998>999 999>998")...)
		wantRound(t, most, edges, 998, 999)
		edges = append(edges, [2]int{999, 999})
		wantRound(t, most, edges, 999)
	})
}

// P10.2 and P10.3: the greatest graphs as they come, held against second ways.
func TestGreatestAsTheyCome(t *testing.T) {
	r := rand.New(rand.NewSource(12))
	inTime(t, "as they come", func() {
		for _, count := range []int{1000, 1500, 3000, api.MaxEdges} {
			edges := someEdges(r, most, count)
			edges = slices.DeleteFunc(edges, func(edge [2]int) bool { return edge[0] == edge[1] })
			edges = append(edges[:min(len(edges), api.MaxEdges-999)], ring(r.Perm(most)[:999]...)...)
			wantRound(t, most, edges, slowRound(most, edges)...)
			edges = risingEdges(r, most, count)
			ranks, _ := slowRanks(most, edges)
			wantRanks(t, most, edges, ranks...)
		}
	})
}
