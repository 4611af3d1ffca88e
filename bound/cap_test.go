package bound

import (
	"math"
	"math/big"
	"slices"
	"strconv"
	"testing"

	"pipewright/api"
)

// edges are numbers around Cap and its parts.
func edges() []int {
	all := []int{0, 1, 2, 3, 5, 6, 7}
	for _, n := range []int{1 << 13, 1 << 20, 1 << 39, api.Cap / 2, api.Cap / 3, api.Cap / 5, api.Cap / 6, api.Cap, 2 * api.Cap, 1 << 62, math.MaxInt64 - 1} {
		all = append(all, n-1, n, n+1)
	}
	return all
}

func capped(n *big.Int) int {
	if n.Cmp(big.NewInt(api.Cap)) > 0 {
		return api.Cap
	}
	return int(n.Int64())
}

// P12: sums and products above Cap are Cap; 0 times Cap is 0.
func TestNumbers(t *testing.T) {
	for _, a := range edges() {
		for _, b := range edges() {
			x, y := big.NewInt(int64(a)), big.NewInt(int64(b))
			if got, want := Add(a, b), capped(new(big.Int).Add(x, y)); got != want {
				t.Errorf("Add(%d, %d): %d, want %d", a, b, got, want)
			}
			if got, want := Times(a, b), capped(new(big.Int).Mul(x, y)); got != want {
				t.Errorf("Times(%d, %d): %d, want %d", a, b, got, want)
			}
		}
	}
	for _, c := range [][3]int{{api.Cap - 1, 1, api.Cap}, {api.Cap - 1, 2, api.Cap}, {api.Cap - 2, 1, api.Cap - 1}, {api.Cap, 0, api.Cap}, {api.Cap, api.Cap, api.Cap}} {
		if n := Add(c[0], c[1]); n != c[2] {
			t.Errorf("Add(%d, %d): %d, want %d", c[0], c[1], n, c[2])
		}
	}
	for _, c := range [][3]int{{1 << 20, 1 << 20, api.Cap}, {1<<20 - 1, 1<<20 + 1, api.Cap - 1}, {1 << 20, 1<<20 - 1, api.Cap - 1<<20}, {0, api.Cap, 0}, {api.Cap, 0, 0}, {1, api.Cap, api.Cap}, {api.Cap, api.Cap, api.Cap}} {
		if n := Times(c[0], c[1]); n != c[2] {
			t.Errorf("Times(%d, %d): %d, want %d", c[0], c[1], n, c[2])
		}
	}
}

// P12: no number is below 0 or above Cap, whatever numbers come.
func TestNumbersStayBetween(t *testing.T) {
	for _, a := range append(edges(), wild...) {
		for _, b := range append(edges(), wild...) {
			for _, n := range []int{Add(a, b), Times(a, b)} {
				if n < 0 || n > api.Cap {
					t.Fatalf("%d and %d make %d", a, b, n)
				}
			}
		}
	}
}

func most(n int) int { return min(n, api.Cap) }

// P12: sums at Cap, just below it and above it: of what is sent, and of the
// channels that a for, or a drain, may be of.
func TestSumsAtCap(t *testing.T) {
	twice := mainOf(t, "chan s r int 1; for x from in { send s x; send s x; } close s; drain r; drain in;")
	more := mainOf(t, "chan s r int 1; for x from in { send s x; } send s 0; close s; drain r; drain in;")
	for _, n := range []int{api.Cap/2 - 2, api.Cap/2 - 1, api.Cap / 2, api.Cap/2 + 1, api.Cap - 2, api.Cap - 1, api.Cap} {
		wantThings(t, twice, n, n, most(2*n))
		wantThings(t, more, n, n, most(n+1))
	}
	for sites := 1; sites <= 5; sites++ {
		for _, n := range []int{api.Cap/sites - 1, api.Cap / sites, api.Cap/sites + 1} {
			main := proc("ri si ri si ri", 1, "for 0 0; for 0 2", rep("chan 1 2;", sites)+"chan 3 4; send 1 @1; send 3 @2")
			want := append([]int{most(n)}, slices.Repeat([]int{most(n)}, sites)...)
			wantThings(t, code(main), n, append(want, most(sites*n))...)
			// Nothing but what is sent and drained is ever done.
			main = proc("ri si ri", 1, "repeat 0 0; for 0 0", rep("chan 1 2 @1;", sites)+"send 1 @2; drain 2 @1")
			main.Ins[len(main.Ins)-1].Block = 1
			wantSteps(t, code(main), n, most(n+sites*n))
			wantSteps(t, code(main), n/2, most(n/2+sites*(n/2)))
		}
	}
}

// P12: products at Cap, just below it and above it.
func TestProductsAtCap(t *testing.T) {
	for turns := range api.MaxTurns + 1 {
		main := proc("ri si ri", 1, "for 0 0; repeat 1 "+strconv.Itoa(turns), "chan 1 2; send 1 @2")
		for _, n := range edges() {
			want := big.NewInt(int64(most(n)))
			want.Mul(want, big.NewInt(int64(turns)))
			wantThings(t, code(main), n, most(n), capped(want))
		}
	}
}

// P12: 0 times Cap is 0, and so is what hangs on that; 1 times it is Cap.
func TestNoTimesCap(t *testing.T) {
	main := proc("ri si ri si ri", 1, "for 0 0; repeat 1 0; repeat 2 6; then 3; for 0 2; repeat 1 1", "chan 1 2; chan 3 4; send 1 @2; send 1 @3; send 1 @4; send 3 @5")
	wantThings(t, code(main), api.Cap, api.Cap, 0, 0)
	main.Ins[2].Block = 6
	wantThings(t, code(main), api.Cap, api.Cap, api.Cap, api.Cap)
	wantThings(t, mainOf(t, "chan s r int 1; for x from in { repeat 0 { send s x; } } close s; drain r; drain in;"), math.MaxInt64, api.Cap, 0)
}

// P12: repeats within repeats: 6 to the 15th is below Cap, 6 to the 16th is
// above; and so of 2 to the 40th, which is Cap.
func TestRepeatsUpToCap(t *testing.T) {
	for turns := 1; turns <= api.MaxTurns; turns++ {
		blocks, said, want, n := "", "chan 1 2;", 1, 1
		for k := range 60 {
			blocks += "repeat " + strconv.Itoa(k) + " " + strconv.Itoa(turns) + ";"
			n = capped(new(big.Int).Mul(big.NewInt(int64(n)), big.NewInt(int64(turns))))
			main := proc("ri si ri", 1, blocks+"repeat "+strconv.Itoa(k+1)+" 0; then "+strconv.Itoa(k+1), said+"send 1 @"+strconv.Itoa(k+1)+"; send 1 @"+strconv.Itoa(k+2))
			wantThings(t, code(main), 0, 0, n)
			main.Ins[2].Block = k + 3
			wantThings(t, code(main), 0, 0, most(2*n))
			want = n
		}
		if turns > 1 && want != api.Cap {
			t.Errorf("%d times and again: %d", turns, want)
		}
	}
}

// P12.1: Steps at Cap, just below it and above it.
func TestStepsAtCap(t *testing.T) {
	for _, n := range edges() {
		n = most(n)
		wantSteps(t, mainOf(t, "drain in;"), n, most(n+3))
		wantSteps(t, mainOf(t, "for x from in { emit x; } drain in;"), n, most(4+4*n))
		wantSteps(t, mainOf(t, "for x from in { emit x; } abandon in;"), n, most(4+3*n))
	}
	for _, n := range []int{api.Cap - 4, api.Cap - 3, api.Cap - 2} {
		wantSteps(t, mainOf(t, "drain in;"), n, most(n+3))
	}
	for _, n := range []int{api.Cap/4 - 2, api.Cap/4 - 1, api.Cap / 4} {
		wantSteps(t, mainOf(t, "for x from in { emit x; } drain in;"), n, most(4+4*n))
	}
	// One instruction alone, of a block that is gone through Cap times.
	main := proc("ri", 1, "for 0 0", "")
	main.Ins[0].Block = 1
	for _, n := range []int{0, 1, api.Cap - 1, api.Cap, api.Cap + 1, math.MaxInt64} {
		wantSteps(t, code(main), n, most(n))
	}
	main.Ins[0].Loop = 1
	for _, n := range []int{0, 1, api.Cap/2 - 1, api.Cap / 2, api.Cap/2 + 1, math.MaxInt64 / 2} {
		wantSteps(t, code(main), n, most(2*n))
	}
}
