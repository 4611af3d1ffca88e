package text

import (
	"math"
	"slices"
	"testing"

	"pipewright/api"
)

func wantOrder(t *testing.T, l, want []api.Fault) {
	t.Helper()
	if got := Order(l); !slices.Equal(got, want) {
		t.Errorf("Order(%v): %v, want %v", l, got, want)
	}
}

// P1.3
func TestOrder(t *testing.T) {
	wantOrder(t, []api.Fault{{Code: 8, At: 5}, {Code: 2, At: 9}, {Code: 3, At: 5}, {Code: 8, At: 5}},
		[]api.Fault{{Code: 3, At: 5}, {Code: 8, At: 5}, {Code: 2, At: 9}})
	wantOrder(t, nil, nil)
	wantOrder(t, []api.Fault{}, nil)
	wantOrder(t, []api.Fault{{}, {Code: 0, At: 4}, {Code: 0, At: -1}}, nil)
	wantOrder(t, []api.Fault{{Code: 5, At: 1}}, []api.Fault{{Code: 5, At: 1}})
	wantOrder(t, []api.Fault{{Code: 5, At: 1}, {Code: 5, At: 1}, {Code: 5, At: 1}}, []api.Fault{{Code: 5, At: 1}})
	wantOrder(t, []api.Fault{{Code: 2, At: 3}, {Code: 0, At: 3}, {Code: 1, At: 3}}, []api.Fault{{Code: 1, At: 3}, {Code: 2, At: 3}})
}

// P1.3: a code that has no word is a code all the same.
func TestOrderOfFarNumbers(t *testing.T) {
	wantOrder(t, []api.Fault{{Code: 1, At: math.MaxInt}, {Code: 1, At: math.MinInt}, {Code: 1, At: 0}, {Code: 1, At: -1}},
		[]api.Fault{{Code: 1, At: math.MinInt}, {Code: 1, At: -1}, {Code: 1, At: 0}, {Code: 1, At: math.MaxInt}})
	wantOrder(t, []api.Fault{{Code: math.MaxInt, At: 2}, {Code: 18, At: 2}, {Code: math.MinInt, At: 2}, {Code: -1, At: 2}, {Code: 0, At: 2}},
		[]api.Fault{{Code: math.MinInt, At: 2}, {Code: -1, At: 2}, {Code: 18, At: 2}, {Code: math.MaxInt, At: 2}})
}

// slowOrder picks the least that is above the last one, again and again.
func slowOrder(l []api.Fault) []api.Fault {
	above := func(a, b api.Fault) bool { return a.At > b.At || a.At == b.At && a.Code > b.Code }
	var out []api.Fault
	for {
		var least []api.Fault
		for _, f := range l {
			if f.Code == 0 || len(out) > 0 && !above(f, out[len(out)-1]) {
				continue
			}
			if len(least) == 0 || above(least[0], f) {
				least = []api.Fault{f}
			}
		}
		if len(least) == 0 {
			return out
		}
		out = append(out, least[0])
	}
}

// P1.3: all lists of four faults out of a few, and a long one.
func TestOrderAgainstASlowOne(t *testing.T) {
	few := []api.Fault{{}, {Code: 0, At: 2}, {Code: 1, At: 1}, {Code: 2, At: 1}, {Code: 1, At: 2}, {Code: -3, At: 2}, {Code: 2, At: -1}}
	n := len(few)
	for k := range n * n * n * n {
		l := []api.Fault{few[k%n], few[k/n%n], few[k/n/n%n], few[k/n/n/n]}
		wantOrder(t, l, slowOrder(l))
	}
	var long []api.Fault
	for k := range 500 {
		long = append(long, api.Fault{Code: k * 7 % 5, At: k * 31 % 17})
	}
	wantOrder(t, long, slowOrder(long))
}

// guarded lays a list into greater memory, with more faults ahead and behind.
func guarded(l []api.Fault) (whole, part []api.Fault) {
	whole = append([]api.Fault{{Code: 4, At: -9}}, l...)
	whole = append(whole, api.Fault{Code: 6, At: -7}, api.Fault{Code: 7, At: -8})
	return whole, whole[1 : 1+len(l)]
}

func someLists() [][]api.Fault {
	return [][]api.Fault{
		{},
		{{Code: 5, At: 1}},
		{{Code: 5, At: 1}, {Code: 6, At: 1}, {Code: 5, At: 2}},
		{{Code: 5, At: 2}, {Code: 0, At: 1}, {Code: 6, At: 1}, {Code: 5, At: 2}, {Code: 5, At: 1}},
	}
}

func TestOrderLeavesItsListAlone(t *testing.T) {
	for _, l := range someLists() {
		whole, part := guarded(l)
		before := slices.Clone(whole)
		got := Order(part)
		if !slices.Equal(whole, before) {
			t.Errorf("Order(%v) changed what was handed in: %v, want %v", l, whole, before)
		}
		want := slices.Clone(got)
		for i := range whole {
			whole[i] = api.Fault{Code: 99, At: 99}
		}
		if !slices.Equal(got, want) {
			t.Errorf("Order(%v) shares memory with what was handed in", l)
		}
	}
}

func TestOrderIsNewMemory(t *testing.T) {
	for _, l := range someLists() {
		whole, part := guarded(l)
		before := slices.Clone(whole)
		first, second := Order(part), Order(part)
		want := slices.Clone(second)
		for i := range first {
			first[i] = api.Fault{Code: 99, At: 99}
		}
		_ = append(first, api.Fault{Code: 98, At: 98})
		if !slices.Equal(second, want) || !slices.Equal(whole, before) {
			t.Errorf("Order(%v): writing to one answer changed another, or what was handed in", l)
		}
	}
}
