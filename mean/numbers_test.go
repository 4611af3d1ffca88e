package mean

import (
	"fmt"
	"math/big"
	"slices"
	"strings"
	"testing"

	"pipewright/api"
)

func emits(t *testing.T, does string, in []int64, want ...int64) {
	t.Helper()
	m := begunMain(t, does, in...)
	runs(t, m)
	if got := m.Out(); !slices.Equal(got, want) {
		t.Errorf("%s with %v: %v, want %v", does, in, got, want)
	}
}

// P19.2: E is reckoned in 64 bits, as they wrap round; < and == make 1 or 0; the
// part that stands first is the left one.
func TestReckoning(t *testing.T) {
	var does strings.Builder
	signs := strings.Fields("+ - * < ==")
	for _, sign := range signs {
		fmt.Fprintf(&does, "emit a %s b; ", sign)
	}
	for _, a := range edges {
		emits(t, "take a from in { emit -a; }", in(a), wrapped(new(big.Int).Neg(exact(a))))
		for _, b := range edges {
			var want []int64
			for n := range signs {
				want = append(want, joinedExactly(api.OpAdd+n, a, b))
			}
			emits(t, "take a from in { take b from in { "+does.String()+"} }", in(a, b), want...)
		}
	}
}

// P19.2: some of these, written out.
func TestReckoningWrittenOut(t *testing.T) {
	for said, want := range map[string]int64{
		"m + 1":                   least,
		"m * 2":                   -2,
		"-m - 2":                  greatest,
		"-(-m - 1)":               least,
		"4294967296 * 4294967296": 0,
		"3 - 5":                   -2,
		"3 < 5":                   1,
		"5 < 3":                   0,
		"5 < 5":                   0,
		"5 == 5":                  1,
		"5 == -5":                 0,
		"-m < m":                  1,
		"1 + 2 * 3":               7,
		"(1 + 2) * 3":             9,
		"10 - (4 - 3)":            9,
		"10 - 4 - 3":              3,
		"--2 - -3":                5,
		"(1 < 2) - (3 == 4)":      1,
		"1 < (2 < 3)":             0,
		"m == 9":                  0,
		"999999999999999999":      999999999999999999,
		"0":                       0,
	} {
		emits(t, "take m from in { emit "+said+"; }", in(greatest), want)
	}
}

// P19.2: an expression of as many parts as there may be.
func TestLongestExpression(t *testing.T) {
	emits(t, "let n = 3; emit "+strings.Repeat("n + ", 9)+"-n;", nil, 24)
	emits(t, "let n = 3; emit "+strings.Repeat("-", 19)+"n;", nil, -3)
	emits(t, "let n = 3; emit "+strings.Repeat("(1 - ", 9)+"-n"+strings.Repeat(")", 9)+";", nil, 4)
}

// P19.2: wherever an E stands it is reckoned alike.
func TestEveryE(t *testing.T) {
	src := `stage f(n int, k int) { emit n; emit k; }
stage main(in recv int) {
	take a from in {
		let x = a * 3 - 1;
		emit x;
		set x = a * 3 - 1;
		emit x;
		chan s r int 1;
		send s a * 3 - 1;
		take y from r { emit y; }
		if a * 3 - 1 { emit 1; } else { emit 0; }
		repeat a * 3 - 1 { emit 8; }
		spawn f(a * 3 - 1, -(a * 3 - 1));
	}
}`
	for _, a := range edges {
		want := joinedExactly(api.OpSub, joinedExactly(api.OpMul, a, 3), 1)
		m := begun(t, src, a)
		runs(t, m)
		list := in(want, want, want, 1)
		if want == 0 {
			list[3] = 0
		}
		for range min(max(want, 0), api.MaxTurns) {
			list = append(list, 8)
		}
		list = append(list, want, joinedExactly(api.OpSub, 0, want))
		if got := m.Out(); !slices.Equal(got, list) {
			t.Errorf("with %d: %v, want %v", a, got, list)
		}
	}
}

// P19.2: an end that others put among numbers is taken for 0.
func TestEndForANumber(t *testing.T) {
	m := begunMain(t, "chan a b int 5; take x from b { emit x + 5; set x = x + 2; emit x; } emit 9;")
	goes(t, m, 0)
	if !m.Put(2, anEnd(1)) {
		t.Fatal("Put")
	}
	goes(t, m, 0, 0, 0, 0, 0)
	shows(t, m, "0", "s0:-1 r0:0 s1:0 r1:0", "0/0[] 5/1[]", "", "5 2 9")
}
