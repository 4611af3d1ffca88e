package ranks

import (
	"math/rand"
	"slices"
	"testing"
)

// P10.3: none, if there is none.
func TestNoRound(t *testing.T) {
	for _, said := range []string{"", "0>1", "1>0", "0>1 0>1", "0>1 1>2 0>2 3>1 3>0", "0>3 1>3 2>3", "3>0 2>1", "0>1 2>1 2>3 0>3"} {
		if round, f := Round(4, e(said)); len(round) != 0 || f.Code != 0 {
			t.Errorf("Round(4, %s): %v %v", said, round, f)
		}
	}
}

// P10.3: the shortest one, whatever its nodes are.
func TestShortestRound(t *testing.T) {
	wantRound(t, 4, e("3>1 1>2 2>3 2>1 0>0"), 0)
	wantRound(t, 4, e("3>1 1>2 2>3 2>1"), 1, 2)
	wantRound(t, 5, e("0>1 1>0 4>4"), 4)
	wantRound(t, 5, e("0>1 1>2 2>0 3>4 4>3"), 3, 4)
	wantRound(t, 9, e("0>1 1>2 2>3 3>0 4>5 5>6 6>4 7>8 8>7"), 7, 8)
	wantRound(t, 9, e("0>1 1>2 2>3 3>0 4>5 5>6 6>4 7>8"), 4, 5, 6)
	wantRound(t, 6, e("0>1 1>2 2>3 3>4 4>5 5>0 0>4 4>0"), 0, 4)
	wantRound(t, 6, e("0>1 1>2 2>3 3>4 4>5 5>0 1>4"), 0, 1, 4, 5)
	wantRound(t, 6, e("0>1 1>2 2>3 3>4 4>5 5>0 4>2"), 2, 3, 4)
	wantRound(t, 5, e("0>1 1>2 2>3 3>0 3>4 4>3"), 3, 4)
	wantRound(t, 3, e("0>1 1>2 2>0 2>2"), 2)
}

// P10.3: of several as short that with the least nodes, where they differ first.
func TestLeastRound(t *testing.T) {
	wantRound(t, 3, e("2>2 1>1 0>0"), 0)
	wantRound(t, 3, e("2>2 1>1"), 1)
	wantRound(t, 4, e("2>3 3>2 0>1 1>0"), 0, 1)
	wantRound(t, 4, e("0>3 3>0 1>2 2>1"), 0, 3)
	wantRound(t, 4, e("0>3 3>0 0>2 2>0 0>1"), 0, 2)
	wantRound(t, 3, e("0>1 1>2 2>0 0>2 2>1 1>0 0>0"), 0)
	wantRound(t, 3, e("0>1 1>2 2>0 0>2 2>1 1>0"), 0, 1)
	wantRound(t, 6, e("0>5 5>1 1>0 0>4 4>3 3>0"), 0, 4, 3)
	wantRound(t, 6, e("0>3 3>5 5>0 3>4 4>0"), 0, 3, 4)
	wantRound(t, 6, e("0>5 5>1 1>0 5>3 3>0 0>4"), 0, 5, 1)
	wantRound(t, 6, e("5>4 4>3 3>5 2>1 1>0 0>2"), 0, 2, 1)
	wantRound(t, 7, e("0>1 1>6 6>5 5>0 0>2 2>3 3>4 4>0"), 0, 1, 6, 5)
	wantRound(t, 7, e("0>1 0>2 1>5 2>4 5>6 4>6 6>0"), 0, 1, 5, 6)
	wantRound(t, 7, e("0>1 0>2 1>4 1>5 2>3 3>6 5>6 4>6 6>0"), 0, 1, 4, 6)
	wantRound(t, 8, e("0>7 7>1 1>2 2>0 0>6 6>5 5>4 4>0"), 0, 6, 5, 4)
	wantRound(t, 8, e("0>1 0>2 1>6 2>3 6>7 3>4 7>0 4>0"), 0, 1, 6, 7)
	wantRound(t, 8, e("0>1 0>2 1>7 2>3 7>5 3>4 5>0 4>0"), 0, 1, 7, 5)
}

// P10.3: the first nodes of a way count ahead of its last one.
func TestLeastRoundThroughOne(t *testing.T) {
	// Two ways of the same length to 5, the one with the lower last node worse.
	wantRound(t, 6, e("0>1 1>4 4>5 0>2 2>3 3>5 5>0"), 0, 1, 4, 5)
	// Two nodes that lead back, the lower one on the worse way.
	wantRound(t, 6, e("0>1 1>5 5>0 0>2 2>3 3>0"), 0, 1, 5)
	// A lower first step that leads back only by a longer way.
	wantRound(t, 6, e("0>1 1>2 2>3 3>0 0>4 4>5 5>0"), 0, 4, 5)
	// A lower first step that leads nowhere.
	wantRound(t, 6, e("0>1 1>2 0>3 3>4 4>0"), 0, 3, 4)
}

// P10.3: a node below all of the round that only leads into it, or out of it.
func TestRoundBehindOthers(t *testing.T) {
	wantRound(t, 5, e("0>3 3>4 4>3"), 3, 4)
	wantRound(t, 5, e("3>4 4>3 4>0 3>1 1>2"), 3, 4)
	wantRound(t, 6, e("0>1 1>2 2>1 2>3 3>4 4>5"), 1, 2)
	wantRound(t, 6, e("0>4 4>2 2>5 5>4 1>2 5>3"), 2, 5, 4)
	wantRound(t, 7, e("1>3 3>6 6>3 6>0 0>2"), 3, 6)
}

// P10.3: an edge of a node to itself is the shortest round that there may be.
func TestRoundOfOne(t *testing.T) {
	for n := 1; n <= 30; n++ {
		for node := range n {
			wantRound(t, n, [][2]int{{node, node}}, node)
			wantRound(t, n, append(ring(upTo(n)...), [2]int{node, node}), node)
			wantRound(t, n, append([][2]int{{node, node}, {n - 1, n - 1}}, ring(upTo(n)...)...), node)
		}
	}
}

// P10.3: rounds that share nodes and edges.
func TestRoundsThatShare(t *testing.T) {
	wantRound(t, 5, e("2>0 0>1 1>2 2>3 3>4 4>2"), 0, 1, 2)
	wantRound(t, 5, e("2>0 0>1 1>2 2>3 3>2"), 2, 3)
	wantRound(t, 6, e("0>1 1>2 2>3 3>0 3>1"), 1, 2, 3)
	wantRound(t, 6, e("0>1 1>2 2>3 3>0 1>4 4>3"), 0, 1, 2, 3)
	wantRound(t, 6, e("0>1 1>4 4>3 3>0 1>2 2>5 5>1 2>3"), 1, 2, 5)
	wantRound(t, 6, e("4>5 5>0 0>4 5>1 1>4"), 0, 4, 5)
	wantRound(t, 6, e("4>5 5>2 2>4 5>1 1>4"), 1, 4, 5)
}

// P10.3: a round is seen from its least node on, wherever its edges begin and
// whichever way round it goes.
func TestRoundFromItsLeast(t *testing.T) {
	r := rand.New(rand.NewSource(3))
	for range 400 {
		n := 1 + r.Intn(40)
		nodes := r.Perm(n)[:1+r.Intn(n)]
		want := seenFromLeast(nodes)
		edges := ring(nodes...)
		for k := range edges {
			wantRound(t, n, slices.Concat(edges[k:], edges[:k]), want...)
		}
		slices.Reverse(edges)
		wantRound(t, n, edges, want...)
		wantRound(t, n, shuffled(r, edges), want...)
		slices.Reverse(nodes)
		wantRound(t, n, ring(nodes...), seenFromLeast(nodes)...)
	}
}

// P10.3: edges that stand twice are one.
func TestRoundOfTwins(t *testing.T) {
	wantRanks(t, 2, e("0>1 0>1"), 0, 1)
	wantRound(t, 1, e("0>0 0>0 0>0"), 0)
	wantRound(t, 2, e("0>1 1>0 0>1 1>0"), 0, 1)
	wantRound(t, 5, e("4>1 4>1 1>3 1>3 3>4 1>2 2>4 1>2"), 1, 2, 4)
	wantRound(t, 2, slices.Repeat(e("1>0 0>1"), 10000), 0, 1)
	wantRound(t, 1, slices.Repeat(e("0>0"), 20000), 0)
}

// P10.3: the order of the edges is not to be seen.
func TestRoundInEveryOrder(t *testing.T) {
	eachOrder(e("0>2 2>0 0>1 1>0 1>2 2>1"), func(edges [][2]int) { wantRound(t, 3, edges, 0, 1) })
	eachOrder(e("0>3 3>1 1>0 0>2 2>4 4>0"), func(edges [][2]int) { wantRound(t, 5, edges, 0, 2, 4) })
	eachOrder(e("0>1 1>4 4>5 0>2 2>3 3>5 5>0"), func(edges [][2]int) { wantRound(t, 6, edges, 0, 1, 4, 5) })
	eachOrder(e("1>2 2>1 3>1 1>3 1>2 0>3"), func(edges [][2]int) { wantRound(t, 4, edges, 1, 2) })
}
