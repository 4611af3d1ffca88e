package ranks

import (
	"math"
	"math/rand"
	"slices"
	"testing"

	"pipewright/api"
)

// many are so many edges, no two of them alike, that lead from lower nodes to
// higher ones of 1000.
func many(count int) [][2]int {
	var edges [][2]int
	for step := 1; len(edges) < count; step++ {
		for from := 0; from+step < 1000 && len(edges) < count; from++ {
			edges = append(edges, [2]int{from, from + step})
		}
	}
	return edges
}

// P10.1: ErrMany at -1: n is not from 0 to 1000.
func TestNodesTooMany(t *testing.T) {
	for _, n := range []int{math.MinInt, math.MinInt + 1, -1 << 32, -1000, -2, -1, 1001, 1002, 2000, 1 << 31, 1 << 32, 1<<32 + 5, math.MaxInt - 1, math.MaxInt} {
		wantFault(t, n, nil, api.ErrMany, -1)
		wantFault(t, n, [][2]int{}, api.ErrMany, -1)
		wantFault(t, n, e("0>1"), api.ErrMany, -1)
		wantFault(t, n, e("0>0 1>1"), api.ErrMany, -1)
	}
}

// P10.1: each n from 0 to 1000 is fine, without edges and with some.
func TestNodesInRange(t *testing.T) {
	for n := range 1001 {
		wantFine(t, n, nil)
		wantFine(t, n, [][2]int{})
		if n > 0 {
			wantFine(t, n, [][2]int{{0, n - 1}, {n - 1, 0}, {n / 2, n / 2}, {n - 1, n - 1}})
		}
	}
	for _, n := range []int{0, 1, 2, 999, 1000} {
		wantRanks(t, n, nil, make([]int, n)...)
		wantRanks(t, n, [][2]int{}, make([]int, n)...)
	}
}

// P10.1: ErrMany at -1: more than MaxEdges edges.
func TestEdgesTooMany(t *testing.T) {
	for _, count := range []int{0, 1, api.MaxEdges - 1, api.MaxEdges} {
		wantFine(t, 1000, many(count))
	}
	for _, count := range []int{api.MaxEdges + 1, api.MaxEdges + 2, 2 * api.MaxEdges, 10 * api.MaxEdges} {
		wantFault(t, 1000, many(count), api.ErrMany, -1)
		wantFault(t, 999, many(count), api.ErrMany, -1)
	}
}

// P10.1: edges are counted as they stand, such as stand twice, too.
func TestEdgesThatStandTwiceCount(t *testing.T) {
	for _, edge := range e("0>0 0>1 1>0 4>4") {
		all := slices.Repeat([][2]int{edge}, api.MaxEdges+1)
		wantFine(t, 5, all[1:])
		wantFault(t, 5, all, api.ErrMany, -1)
	}
	twice := append(many(api.MaxEdges), [2]int{0, 1})
	wantFine(t, 1000, twice[:api.MaxEdges])
	wantFault(t, 1000, twice, api.ErrMany, -1)
}

// wrongNodes are none of n nodes.
func wrongNodes(n int) []int {
	return []int{math.MinInt, math.MinInt + 1, -1 << 32, -1000, -2, -1, n, n + 1, n + 2, 2*n + 1, 1001, 1 << 31, 1 << 32, 1<<32 + 1, math.MaxInt - 1, math.MaxInt}
}

// P10.1: ErrRange at its number: an edge of which a node is none, on either
// side of it or on both.
func TestEdgeOutOfRange(t *testing.T) {
	for _, n := range []int{1, 2, 3, 10, 999, 1000} {
		for _, wrong := range wrongNodes(n) {
			for _, edge := range [][2]int{{0, wrong}, {wrong, 0}, {n - 1, wrong}, {wrong, n - 1}, {wrong, wrong}, {wrong, -1}, {n, wrong}} {
				wantFault(t, n, [][2]int{edge}, api.ErrRange, 0)
				wantFault(t, n, [][2]int{{0, 0}, {n - 1, 0}, {0, n - 1}, edge}, api.ErrRange, 3)
				wantFault(t, n, [][2]int{{0, n - 1}, edge, {0, 0}}, api.ErrRange, 1)
			}
		}
	}
}

// P10.1: the first of several; a number counts what stands twice, too.
func TestFirstEdgeOutOfRange(t *testing.T) {
	wantFault(t, 2, e("0>1 0>2"), api.ErrRange, 1)
	wantFault(t, 2, e("0>2 0>1"), api.ErrRange, 0)
	wantFault(t, 2, e("0>1 0>1 1>1 1>1 2>0"), api.ErrRange, 4)
	wantFault(t, 2, e("1>0 0>3 3>0 -1>0"), api.ErrRange, 1)
	wantFault(t, 2, e("1>0 3>0 0>3 0>2 0>2"), api.ErrRange, 1)
	wantFault(t, 3, e("2>2 1>2 0>3 0>3 0>3"), api.ErrRange, 2)
	r := rand.New(rand.NewSource(1))
	for range 500 {
		n := 1 + r.Intn(1000)
		edges := someEdges(r, n, 1+r.Intn(200))
		wantFine(t, n, edges)
		first := len(edges)
		for range 1 + r.Intn(4) {
			k, wrong := r.Intn(len(edges)), wrongNodes(n)
			edges[k][r.Intn(2)] = wrong[r.Intn(len(wrong))]
			first = min(first, k)
		}
		wantFault(t, n, edges, api.ErrRange, first)
	}
}

// P10.1: of just MaxEdges edges the last one is asked, too.
func TestLastEdgeOutOfRange(t *testing.T) {
	edges := many(api.MaxEdges)
	for _, wrong := range wrongNodes(1000) {
		edges[api.MaxEdges-1] = [2]int{wrong, 0}
		wantFault(t, 1000, edges, api.ErrRange, api.MaxEdges-1)
		edges[api.MaxEdges-1] = [2]int{0, wrong}
		wantFault(t, 1000, edges, api.ErrRange, api.MaxEdges-1)
	}
}

// P10.1: where there are no nodes, no edge may stand.
func TestEdgesWithoutNodes(t *testing.T) {
	wantRanks(t, 0, nil)
	for _, edges := range [][][2]int{e("0>0"), e("0>1"), e("-1>0"), e("-1>-1 0>0"), make([][2]int, 30), make([][2]int, api.MaxEdges)} {
		wantFault(t, 0, edges, api.ErrRange, 0)
	}
	wantFault(t, 0, make([][2]int, api.MaxEdges+1), api.ErrMany, -1)
}

// P10.1: ErrMany is told ahead of ErrRange.
func TestManyAheadOfRange(t *testing.T) {
	for _, n := range []int{math.MinInt, -1, 1001, math.MaxInt} {
		for _, edges := range [][][2]int{{{-1, 0}}, {{0, -1}}, {{n, n}}, {{math.MinInt, math.MaxInt}}} {
			wantFault(t, n, edges, api.ErrMany, -1)
		}
	}
	for _, n := range []int{0, 1, 2, 999, 1000} {
		for _, wrong := range wrongNodes(n) {
			all := slices.Repeat([][2]int{{wrong, wrong}}, api.MaxEdges+1)
			wantFault(t, n, all, api.ErrMany, -1)
			wantFault(t, n, all[1:], api.ErrRange, 0)
		}
		wantFault(t, -1-n, slices.Repeat([][2]int{{-1, -1}}, api.MaxEdges+1), api.ErrMany, -1)
	}
}

// P10.2 and P10.3: Check's fault is told where there is a round, too.
func TestFaultAheadOfRound(t *testing.T) {
	wantFault(t, 2, e("0>0 0>1 1>0 2>0"), api.ErrRange, 3)
	wantFault(t, 2, e("0>2 0>0 0>1 1>0"), api.ErrRange, 0)
	wantFault(t, 1001, e("0>0"), api.ErrMany, -1)
	wantFault(t, 1, make([][2]int, api.MaxEdges+1), api.ErrMany, -1)
}
