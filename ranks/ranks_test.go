package ranks

import (
	"math/rand"
	"slices"
	"testing"
)

// The chapter's examples, each whole.
func TestExamples(t *testing.T) {
	wantRanks(t, 3, e("0>1 1>2 0>2"), 0, 1, 2)
	wantRound(t, 3, e("0>1 1>2 0>2 2>1"), 1, 2)
	wantRound(t, 1, e("0>0"), 0)
}

// P10.2: nodes that no edge comes to have 0.
func TestRanksOfFirsts(t *testing.T) {
	wantRanks(t, 0, nil)
	wantRanks(t, 1, nil, 0)
	wantRanks(t, 4, nil, 0, 0, 0, 0)
	wantRanks(t, 4, e("0>3 1>3 2>3"), 0, 0, 0, 1)
	wantRanks(t, 4, e("3>0 3>1 3>2"), 1, 1, 1, 0)
	wantRanks(t, 5, e("1>3"), 0, 0, 0, 1, 0)
	wantRanks(t, 6, e("4>2 0>5"), 0, 0, 1, 0, 0, 1)
}

// P10.2: of several ways to a node the longest one counts, whichever is come
// upon first.
func TestRanksOfLongestWays(t *testing.T) {
	wantRanks(t, 2, e("0>1"), 0, 1)
	wantRanks(t, 2, e("1>0"), 1, 0)
	wantRanks(t, 4, e("0>1 1>2 2>3"), 0, 1, 2, 3)
	wantRanks(t, 4, e("3>2 2>1 1>0"), 3, 2, 1, 0)
	wantRanks(t, 4, e("2>0 0>3 3>1"), 1, 3, 0, 2)
	wantRanks(t, 4, e("0>1 1>2 2>3 0>3"), 0, 1, 2, 3)
	wantRanks(t, 4, e("0>3 0>1 1>2 2>3"), 0, 1, 2, 3)
	wantRanks(t, 4, e("0>3 0>1 1>3 1>2 2>3 0>2"), 0, 1, 2, 3)
	wantRanks(t, 5, e("0>1 0>2 1>4 2>3 3>4"), 0, 1, 1, 2, 3)
	wantRanks(t, 5, e("0>2 0>1 2>4 1>3 3>4"), 0, 1, 1, 2, 3)
	wantRanks(t, 5, e("0>4 1>4 1>2 2>3 3>4"), 0, 0, 1, 2, 3)
	wantRanks(t, 6, e("0>5 1>5 2>3 3>5 5>4"), 0, 0, 0, 1, 3, 2)
	wantRanks(t, 7, e("0>1 0>2 1>3 2>3 3>4 3>5 4>6 5>6"), 0, 1, 1, 2, 3, 3, 4)
	wantRanks(t, 7, e("6>5 6>4 5>3 4>3 3>2 3>1 2>0 1>0 6>0"), 4, 3, 3, 2, 1, 1, 0)
	wantRanks(t, 8, e("0>1 1>2 2>3 4>5 5>6 6>7 4>3 0>7 1>7"), 0, 1, 2, 3, 0, 1, 2, 3)
}

// P10.2: graphs of several parts, and nodes without edges between them.
func TestRanksOfParts(t *testing.T) {
	wantRanks(t, 9, e("1>2 2>4 5>7 7>8 5>8"), 0, 0, 1, 0, 2, 0, 0, 1, 2)
	wantRanks(t, 6, e("0>5 4>1"), 0, 1, 0, 0, 0, 1)
	want := make([]int, 1000)
	want[500], want[0] = 1, 2
	wantRanks(t, 1000, e("999>500 500>0"), want...)
}

// P10.2: ErrRound at -1, and no list, wherever the round is.
func TestRanksOfRounds(t *testing.T) {
	wantRound(t, 1, e("0>0"), 0)
	wantRound(t, 3, e("1>1"), 1)
	wantRound(t, 3, e("0>1 1>2 2>2"), 2)
	wantRound(t, 3, e("0>0 0>1 1>2"), 0)
	wantRound(t, 2, e("0>1 1>0"), 0, 1)
	wantRound(t, 2, e("1>0 0>1"), 0, 1)
	wantRound(t, 3, e("0>1 1>2 2>0"), 0, 1, 2)
	wantRound(t, 3, e("0>2 2>1 1>0"), 0, 2, 1)
	wantRound(t, 5, e("0>1 3>4 4>3"), 3, 4)
	wantRound(t, 6, e("0>1 1>2 2>3 3>4 4>5 5>3"), 3, 4, 5)
	wantRound(t, 6, e("3>4 4>5 5>3 3>0 0>1 1>2"), 3, 4, 5)
	wantRound(t, 7, e("0>1 1>2 4>2 2>3 3>4 4>5 5>6 0>6"), 2, 3, 4)
	for n := 1; n <= 100; n++ {
		wantRound(t, n, ring(upTo(n)...), upTo(n)...)
		wantRound(t, 1000, ring(upTo(n)...), upTo(n)...)
	}
}

// P10.2: edges that stand twice are one.
func TestRanksOfTwins(t *testing.T) {
	wantRanks(t, 2, e("0>1 0>1"), 0, 1)
	wantRanks(t, 3, e("0>1 0>1 0>1 1>2 1>2 0>2 0>2 0>2"), 0, 1, 2)
	wantRanks(t, 3, e("1>2 0>1 1>2 0>1 1>2"), 0, 1, 2)
	wantRanks(t, 4, e("0>3 1>3 0>3 1>2 2>3 1>2"), 0, 0, 1, 2)
	wantRanks(t, 2, slices.Repeat(e("1>0"), 20000), 1, 0)
	wantRanks(t, 3, slices.Repeat(e("1>0 0>2"), 10000), 1, 0, 2)
}

// eachOrder hands over the edges in every order.
func eachOrder(edges [][2]int, do func(edges [][2]int)) {
	edges = slices.Clone(edges)
	var lay func(k int)
	lay = func(k int) {
		if k == len(edges) {
			do(slices.Clone(edges))
			return
		}
		for i := k; i < len(edges); i++ {
			edges[k], edges[i] = edges[i], edges[k]
			lay(k + 1)
			edges[k], edges[i] = edges[i], edges[k]
		}
	}
	lay(0)
}

// P10.2: the order of the edges is not to be seen.
func TestRanksInEveryOrder(t *testing.T) {
	eachOrder(e("0>1 1>2 2>3 0>3 1>3 0>2"), func(edges [][2]int) { wantRanks(t, 4, edges, 0, 1, 2, 3) })
	eachOrder(e("4>0 0>2 2>1 4>1 3>1 0>2"), func(edges [][2]int) { wantRanks(t, 5, edges, 1, 3, 2, 0, 0) })
	eachOrder(e("0>1 0>2 1>4 2>3 3>4 0>4 4>5"), func(edges [][2]int) { wantRanks(t, 6, edges, 0, 1, 1, 2, 3, 4) })
}

// P10.2: a way through n nodes, in whatever order, with ways that are shorter.
func TestRanksOfLongWays(t *testing.T) {
	r := rand.New(rand.NewSource(2))
	for _, n := range []int{1, 2, 3, 17, 100, 999, 1000} {
		wantRanks(t, n, chain(upTo(n)...), upTo(n)...)
		for range 5 {
			nodes := r.Perm(n)
			edges := chain(nodes...)
			for range 3 * (n - 1) {
				a, b := r.Intn(n), r.Intn(n)
				if a != b {
					edges = append(edges, [2]int{nodes[min(a, b)], nodes[max(a, b)]})
				}
			}
			want := make([]int, n)
			for rank, node := range nodes {
				want[node] = rank
			}
			wantRanks(t, n, shuffled(r, edges), want...)
		}
	}
}
