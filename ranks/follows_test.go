package ranks

import (
	"math/rand"
	"slices"
	"testing"

	"pipewright/api"
)

// eachGraph hands over all graphs of n nodes.
func eachGraph(n int, do func(edges [][2]int)) {
	for chosen := range 1 << (n * n) {
		var edges [][2]int
		for k := range n * n {
			if chosen>>k&1 == 1 {
				edges = append(edges, [2]int{k / n, k % n})
			}
		}
		do(edges)
	}
}

// P10.2 and P10.3, held against all rounds and all lengths of ways.
func holdAgainstAll(t *testing.T, n int, edges [][2]int) bool {
	t.Helper()
	best := slowBest(slowRounds(n, edges))
	ranks, are := slowRanks(n, edges)
	if are != (best == nil) {
		t.Fatalf("%d nodes, %s: the second ways differ", n, shown(edges))
	}
	if are {
		wantRanks(t, n, edges, ranks...)
	} else {
		wantRound(t, n, edges, best...)
	}
	return are
}

// P10.2 and P10.3: all graphs of at most four nodes.
func TestAllSmallGraphs(t *testing.T) {
	for n, wantRanked := range []int{1, 1, 3, 25, 543} { // so many graphs without a round there are
		ranked := 0
		eachGraph(n, func(edges [][2]int) {
			if holdAgainstAll(t, n, edges) {
				ranked++
			}
		})
		if ranked != wantRanked {
			t.Errorf("%d graphs of %d nodes have ranks, want %d", ranked, n, wantRanked)
		}
	}
}

// P10.2 and P10.3: graphs as they come, of few nodes.
func TestSomeGraphs(t *testing.T) {
	r := rand.New(rand.NewSource(4))
	ranked, lengths := 0, [9]int{}
	for range 20000 {
		n := 1 + r.Intn(8)
		edges := someEdges(r, n, r.Intn(2*n+1))
		if r.Intn(2) == 0 {
			edges = slices.DeleteFunc(edges, func(edge [2]int) bool { return edge[0] == edge[1] })
		}
		if r.Intn(3) == 0 {
			edges = append(risingEdges(r, n, r.Intn(n)), ring(r.Perm(n)[:1+r.Intn(n)]...)...)
		}
		if holdAgainstAll(t, n, edges) {
			ranked++
		}
		lengths[len(slowBest(slowRounds(n, edges)))]++
	}
	if ranked < 5000 || slices.Min(lengths[:]) < 10 {
		t.Errorf("%d with ranks, rounds of each length: %v: too few", ranked, lengths)
	}
}

// P10.3: rings laid upon one another, so that several rounds are as short.
func TestSomeRings(t *testing.T) {
	r := rand.New(rand.NewSource(5))
	ties := 0
	for range 5000 {
		n := 4 + r.Intn(5)
		length := 2 + r.Intn(n-2)
		var edges [][2]int
		for range 1 + r.Intn(3) {
			edges = append(edges, ring(r.Perm(n)[:length]...)...)
		}
		edges = shuffled(r, edges)
		holdAgainstAll(t, n, edges)
		rounds := slowRounds(n, edges)
		best := slowBest(rounds)
		if slices.ContainsFunc(rounds, func(round []int) bool {
			return len(round) == len(best) && !slices.Equal(round, best)
		}) {
			ties++
		}
	}
	if ties < 2000 {
		t.Errorf("only %d with several rounds as short", ties)
	}
}

// P10.2 and P10.3: greater graphs as they come, held against a second way.
func TestSomeGreaterGraphs(t *testing.T) {
	r := rand.New(rand.NewSource(6))
	for k := range 1500 {
		n := 2 + r.Intn(60)
		edges := someEdges(r, n, r.Intn(3*n))
		switch k % 3 {
		case 0:
			edges = risingEdges(r, n, r.Intn(4*n))
		case 1:
			edges = append(risingEdges(r, n, r.Intn(2*n)), ring(r.Perm(n)[:1+r.Intn(n)]...)...)
		}
		ranks, are := slowRanks(n, edges)
		round := slowRound(n, edges)
		if are {
			wantRanks(t, n, edges, ranks...)
		} else {
			wantRound(t, n, edges, round...)
		}
		if are != (round == nil) {
			t.Fatalf("%d nodes, %s: the second ways differ", n, shown(edges))
		}
	}
}

// wantWhatFollows asks what stands under 'What follows', and that what is told
// is what its words say: ways as long, a round.
func wantWhatFollows(t *testing.T, n int, edges [][2]int) {
	t.Helper()
	ranks, f := Ranks(n, edges)
	round, g := Round(n, edges)
	if g.Code != 0 || f.Code != 0 && f != fault(api.ErrRound, -1) || (f.Code == 0) != (len(round) == 0) {
		t.Fatalf("%d nodes, %s: %s %v, and %s %v", n, shown(edges), shown(ranks), f, shown(round), g)
	}
	if f.Code != 0 {
		wantIsRound(t, n, edges, round)
		return
	}
	highest := make([]int, n)
	for _, edge := range edges {
		if ranks[edge[0]] >= ranks[edge[1]] {
			t.Fatalf("%d nodes, %s: from rank %d to %d", n, shown(edges), ranks[edge[0]], ranks[edge[1]])
		}
		highest[edge[1]] = max(highest[edge[1]], ranks[edge[0]]+1)
	}
	if !slices.Equal(highest, ranks) {
		t.Fatalf("%d nodes, %s: %s, but there are ways of %s", n, shown(edges), shown(ranks), shown(highest))
	}
}

func wantIsRound(t *testing.T, n int, edges [][2]int, round []int) {
	t.Helper()
	has := table(n, edges)
	seen := make([]bool, n)
	for k, node := range round {
		if seen[node] || !has[node][round[(k+1)%len(round)]] || node < round[0] {
			t.Fatalf("%d nodes, %s: %s is no round, seen from its least node on", n, shown(edges), shown(round))
		}
		seen[node] = true
	}
}

// What follows: ranks rise along each edge; there are ranks just if there is no
// round.
func TestWhatFollows(t *testing.T) {
	r := rand.New(rand.NewSource(7))
	for k := range 3000 {
		n := 1 + r.Intn(200)
		edges := someEdges(r, n, r.Intn(n+1))
		if k%2 == 0 {
			edges = risingEdges(r, n, r.Intn(10*n))
		}
		wantWhatFollows(t, n, edges)
	}
	for range 20 {
		wantWhatFollows(t, 1000, risingEdges(r, 1000, api.MaxEdges))
		wantWhatFollows(t, 1000, someEdges(r, 1000, 900))
	}
}

// What follows: one edge more may close a round; without it there are ranks.
func TestEdgeThatCloses(t *testing.T) {
	r := rand.New(rand.NewSource(8))
	closed := 0
	for range 2000 {
		n := 2 + r.Intn(30)
		edges := risingEdges(r, n, 2*n)
		ranks, are := slowRanks(n, edges)
		if !are {
			t.Fatalf("%s has a round", shown(edges))
		}
		wantRanks(t, n, edges, ranks...)
		more := append(edges, [2]int{r.Intn(n), r.Intn(n)})
		wantWhatFollows(t, n, more)
		if round := slowRound(n, more); round != nil {
			closed++
			wantRound(t, n, more, round...)
		}
	}
	if closed < 200 {
		t.Errorf("only %d are closed", closed)
	}
}
