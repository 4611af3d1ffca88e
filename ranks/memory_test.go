package ranks

import (
	"math/rand"
	"slices"
	"testing"
	"unsafe"

	"pipewright/api"
)

// answer is all that is told of one graph.
type answer struct {
	check, noRanks, noRound api.Fault
	ranks, round            []int
}

func answers(n int, edges [][2]int) answer {
	a := answer{check: Check(n, edges)}
	a.ranks, a.noRanks = Ranks(n, edges)
	a.round, a.noRound = Round(n, edges)
	return a
}

func (a answer) twin() answer {
	a.ranks, a.round = slices.Clone(a.ranks), slices.Clone(a.round)
	return a
}

func alike(a, b answer) bool {
	return a.check == b.check && a.noRanks == b.noRanks && a.noRound == b.noRound &&
		slices.Equal(a.ranks, b.ranks) && slices.Equal(a.round, b.round)
}

// someGraph is with a round, without one, or no graph at all.
func someGraph(r *rand.Rand, k int) (int, [][2]int) {
	n := 1 + r.Intn(30)
	edges := someEdges(r, n, 1+r.Intn(2*n))
	switch k % 3 {
	case 0:
		edges = risingEdges(r, n, 1+r.Intn(3*n))
	case 1:
		if r.Intn(4) == 0 {
			edges[r.Intn(len(edges))][r.Intn(2)] = n
		}
	}
	return n, edges
}

// What holds everywhere: what is handed in is not changed.
func TestNothingChanges(t *testing.T) {
	r := rand.New(rand.NewSource(13))
	for k := range 1500 {
		n, edges := someGraph(r, k)
		before := slices.Clone(edges)
		answers(n, edges)
		if !slices.Equal(edges, before) {
			t.Fatalf("%s became %s", shown(before), shown(edges))
		}
	}
}

// P1: what is answered hangs on the arguments alone: the same again, behind
// whatever else was asked.
func TestSameAgain(t *testing.T) {
	r := rand.New(rand.NewSource(14))
	for k := range 1500 {
		n, edges := someGraph(r, k)
		first := answers(n, edges)
		answers(someGraph(r, k+1))
		if again := answers(n, slices.Clone(edges)); !alike(first, again) {
			t.Fatalf("%d nodes, %s: %v and then %v", n, shown(edges), first, again)
		}
	}
}

// What holds everywhere: a list without elements may be nil or empty.
func TestNilAndEmpty(t *testing.T) {
	for _, n := range []int{-1, 0, 1, 7, 1000, 1001} {
		if a, b := answers(n, nil), answers(n, [][2]int{}); !alike(a, b) {
			t.Errorf("%d nodes: %v and %v", n, a, b)
		}
	}
}

// What holds everywhere: what lies behind a list's length is neither read nor
// written.
func TestBehindLists(t *testing.T) {
	r := rand.New(rand.NewSource(15))
	for k := range 1500 {
		n, whole := someGraph(r, k)
		whole = append(whole, [2]int{0, 0}, [2]int{-1, n})
		before := slices.Clone(whole)
		size := r.Intn(len(whole))
		got, want := answers(n, whole[:size]), answers(n, slices.Clip(slices.Clone(whole[:size])))
		if !alike(got, want) {
			t.Fatalf("%d nodes, %s: %v, want %v", n, shown(whole[:size]), got, want)
		}
		if !slices.Equal(whole, before) {
			t.Fatalf("%s became %s", shown(before), shown(whole))
		}
	}
	edges := e("0>1 1>2 2>0 5>5")
	wantRanks(t, 3, edges[:0], 0, 0, 0)
	wantRanks(t, 3, edges[:2], 0, 1, 2)
	wantRound(t, 3, edges[:3], 0, 1, 2)
	wantFault(t, 3, edges, api.ErrRange, 3)
	wantFine(t, 1, make([][2]int, api.MaxEdges+1)[:api.MaxEdges])
}

// What holds everywhere: an answer is new memory: it stays, whatever is done to
// other answers, up to their capacity, and to the edges.
func TestAnswersOfTheirOwn(t *testing.T) {
	r := rand.New(rand.NewSource(16))
	for k := range 1500 {
		n, edges := someGraph(r, k)
		first := answers(n, edges)
		want := first.twin()
		wiped := answers(n, edges)
		for _, list := range [][]int{wiped.ranks, wiped.round} {
			clear(list[:cap(list)])
		}
		again := answers(n, edges)
		clear(edges)
		if !alike(first, want) || !alike(again, want) {
			t.Fatalf("%v became %v, and then %v", want, first, again)
		}
		wantApart(t, first.ranks, first.round, wiped.ranks, wiped.round, again.ranks, again.round)
	}
}

// wantApart: no two of the lists share memory, up to their capacity.
func wantApart(t *testing.T, lists ...[]int) {
	t.Helper()
	type span struct{ from, to uintptr }
	var all []span
	for _, list := range lists {
		if cap(list) > 0 {
			from := uintptr(unsafe.Pointer(unsafe.SliceData(list)))
			all = append(all, span{from, from + uintptr(cap(list))*unsafe.Sizeof(0)})
		}
	}
	slices.SortFunc(all, func(a, b span) int { return int(a.from) - int(b.from) })
	for i := range len(all) - 1 {
		if all[i].to > all[i+1].from {
			t.Fatalf("two lists share memory")
		}
	}
}

// P1: calls beside one another don't come in each other's way.
func TestBesideOneAnother(t *testing.T) {
	r := rand.New(rand.NewSource(17))
	n, edges := 40, someEdges(r, 40, 60)
	want := answers(n, edges)
	got := make(chan answer)
	for range 16 {
		go func() { got <- answers(n, edges) }()
	}
	for range 16 {
		if a := <-got; !alike(a, want) {
			t.Errorf("%v, want %v", a, want)
		}
	}
}
