package ranks

import (
	"fmt"
	"math/rand"
	"slices"
	"strconv"
	"strings"
	"testing"
	"time"

	"pipewright/api"
)

// e makes edges of words: "0>1 1>2".
func e(said string) [][2]int {
	var edges [][2]int
	for _, one := range strings.Fields(said) {
		from, to, _ := strings.Cut(one, ">")
		edges = append(edges, [2]int{number(from), number(to)})
	}
	return edges
}

func number(said string) int {
	n, err := strconv.Atoi(said)
	if err != nil {
		panic(err)
	}
	return n
}

// shown is what is told, but the middle of a long one.
func shown(x any) string {
	s := fmt.Sprint(x)
	if len(s) > 400 {
		return s[:200] + " .. " + s[len(s)-200:]
	}
	return s
}

func fault(code, at int) api.Fault { return api.Fault{Code: code, At: at} }

// wantFault: all three tell this fault, and no list comes with it.
func wantFault(t *testing.T, n int, edges [][2]int, code, at int) {
	t.Helper()
	want := fault(code, at)
	if f := Check(n, edges); f != want {
		t.Errorf("Check(%d, %s): %v, want %v", n, shown(edges), f, want)
	}
	if list, f := Ranks(n, edges); len(list) != 0 || f != want {
		t.Errorf("Ranks(%d, %s): %s %v, want %v", n, shown(edges), shown(list), f, want)
	}
	if list, f := Round(n, edges); len(list) != 0 || f != want {
		t.Errorf("Round(%d, %s): %s %v, want %v", n, shown(edges), shown(list), f, want)
	}
}

func wantFine(t *testing.T, n int, edges [][2]int) {
	t.Helper()
	if f := Check(n, edges); f != (api.Fault{}) {
		t.Errorf("Check(%d, %s): %v", n, shown(edges), f)
	}
}

// wantRanks: these are the ranks, and there is no round.
func wantRanks(t *testing.T, n int, edges [][2]int, want ...int) {
	t.Helper()
	wantFine(t, n, edges)
	if list, f := Ranks(n, edges); !slices.Equal(list, want) || f != (api.Fault{}) {
		t.Errorf("Ranks(%d, %s): %s %v, want %s", n, shown(edges), shown(list), f, shown(want))
	}
	if list, f := Round(n, edges); len(list) != 0 || f != (api.Fault{}) {
		t.Errorf("Round(%d, %s): %s %v, want none", n, shown(edges), shown(list), f)
	}
}

// wantRound: this is the round, and there are no ranks.
func wantRound(t *testing.T, n int, edges [][2]int, want ...int) {
	t.Helper()
	wantFine(t, n, edges)
	if list, f := Round(n, edges); !slices.Equal(list, want) || f != (api.Fault{}) {
		t.Errorf("Round(%d, %s): %s %v, want %s", n, shown(edges), shown(list), f, shown(want))
	}
	if list, f := Ranks(n, edges); len(list) != 0 || f != fault(api.ErrRound, -1) {
		t.Errorf("Ranks(%d, %s): %s %v, want a round", n, shown(edges), shown(list), f)
	}
}

// inTime fails where a call takes far longer than it needs.
func inTime(t *testing.T, what string, do func()) {
	t.Helper()
	done := make(chan int)
	go func() {
		defer close(done)
		do()
	}()
	select {
	case <-done:
	case <-time.After(60 * time.Second):
		t.Fatalf("%s: it goes on and on", what)
	}
}

// upTo counts from 0 on.
func upTo(n int) []int {
	all := make([]int, n)
	for i := range all {
		all[i] = i
	}
	return all
}

// chain leads through these nodes, one after the other.
func chain(nodes ...int) [][2]int {
	var edges [][2]int
	for i := range len(nodes) - 1 {
		edges = append(edges, [2]int{nodes[i], nodes[i+1]})
	}
	return edges
}

// ring leads back to its first node.
func ring(nodes ...int) [][2]int {
	return append(chain(nodes...), [2]int{nodes[len(nodes)-1], nodes[0]})
}

func shuffled(r *rand.Rand, edges [][2]int) [][2]int {
	edges = slices.Clone(edges)
	r.Shuffle(len(edges), func(a, b int) { edges[a], edges[b] = edges[b], edges[a] })
	return edges
}

// renamed has each node under another number.
func renamed(names []int, edges [][2]int) [][2]int {
	edges = slices.Clone(edges)
	for i, edge := range edges {
		edges[i] = [2]int{names[edge[0]], names[edge[1]]}
	}
	return edges
}

// someEdges makes so many edges, of any nodes, some of them more than once.
func someEdges(r *rand.Rand, n, count int) [][2]int {
	edges := make([][2]int, 0, count)
	for range count {
		if len(edges) > 0 && r.Intn(8) == 0 {
			edges = append(edges, edges[r.Intn(len(edges))])
		} else {
			edges = append(edges, [2]int{r.Intn(n), r.Intn(n)})
		}
	}
	return edges
}

// risingEdges makes so many edges without a round, the nodes in any order.
func risingEdges(r *rand.Rand, n, count int) [][2]int {
	edges := someEdges(r, n, count)
	edges = slices.DeleteFunc(edges, func(edge [2]int) bool { return edge[0] == edge[1] })
	for i, edge := range edges {
		edges[i] = [2]int{min(edge[0], edge[1]), max(edge[0], edge[1])}
	}
	return renamed(r.Perm(n), edges)
}
