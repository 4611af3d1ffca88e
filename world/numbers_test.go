package world

import (
	"fmt"
	"math/big"
	"slices"
	"testing"

	"pipewright/api"
)

// edges of 64 bits, and of others.
var edges = in(least, least+1, least/2, -1<<32-1, -1<<32, -1<<31, -1e9, -7, -6, -2, -1, 0, 1, 2, 5, 6, 7, 1e9, 1<<31, 1<<32, 1<<32+1, greatest/2, greatest-1, greatest)

// wrapped is an exact number in 64 bits.
func wrapped(x *big.Int) int64 {
	bits := new(big.Int).And(x, new(big.Int).SetUint64(1<<64-1)).Uint64()
	return int64(bits)
}

func exact(n int64) *big.Int { return big.NewInt(n) }

// joinedExactly is what a step makes of two numbers.
func joinedExactly(op int, a, b int64) int64 {
	x := new(big.Int)
	switch op {
	case api.PushAdd:
		return wrapped(x.Add(exact(a), exact(b)))
	case api.PushSub:
		return wrapped(x.Sub(exact(a), exact(b)))
	case api.PushMul:
		return wrapped(x.Mul(exact(a), exact(b)))
	case api.PushLess:
		return map[bool]int64{true: 1}[exact(a).Cmp(exact(b)) < 0]
	}
	return map[bool]int64{true: 1}[exact(a).Cmp(exact(b)) == 0]
}

// emitted is what a stage emits that has these instructions ahead of its exit.
func emitted(t *testing.T, types, said string, in ...int64) []int64 {
	t.Helper()
	w := begun(t, code(proc(types, 1, said)), in...)
	runs(t, w)
	return w.Out()
}

func emits(t *testing.T, types, said string, want ...int64) {
	t.Helper()
	if got := emitted(t, types, said); !slices.Equal(got, want) {
		t.Errorf("%s: %v, want %v", said, got, want)
	}
}

// P17.3: E is reckoned in 64 bits, as they wrap round; PushLess and PushEq make
// 1 or 0; the part that stands first is the left one.
func TestReckoning(t *testing.T) {
	signs := []string{"+", "-", "*", "<", "="}
	for _, a := range edges {
		emits(t, "ri", fmt.Sprintf("emit %d,neg", a), wrapped(new(big.Int).Neg(exact(a))))
		for _, b := range edges {
			for n, sign := range signs {
				emits(t, "ri", fmt.Sprintf("emit %d,%d,%s", a, b, sign), joinedExactly(api.PushAdd+n, a, b))
			}
		}
	}
}

// P17.3: some of these, written out.
func TestReckoningWrittenOut(t *testing.T) {
	for said, want := range map[string]int64{
		"9223372036854775807,1,+":   least,
		"-9223372036854775808,1,-":  greatest,
		"-9223372036854775808,neg":  least,
		"9223372036854775807,2,*":   -2,
		"-9223372036854775808,-1,*": least,
		"4294967296,4294967296,*":   0,
		"3,5,-":                     -2,
		"3,5,<":                     1,
		"5,3,<":                     0,
		"5,5,<":                     0,
		"5,5,=":                     1,
		"5,-5,=":                    0,
		"-9223372036854775808,9223372036854775807,<": 1,
		"1,2,3,*,+":         7,
		"1,2,+,3,*":         9,
		"10,4,3,-,-":        9,
		"10,4,-,3,-":        3,
		"2,neg,neg,3,neg,-": 5,
		"1,2,<,3,4,=,-":     1,
	} {
		emits(t, "ri", "emit "+said, want)
	}
}

// P17.3: InLet: A's number is E, in which A may stand; others stay as they were.
func TestLet(t *testing.T) {
	emits(t, "ri i i", "emit v1; let 1 5; let 2 v1,1,+; let 1 v1,v1,*; emit v1; emit v2; let 1 v2; let 2 0; emit v1", 0, 25, 6, 6)
	for _, n := range edges {
		emits(t, "ri i i", fmt.Sprintf("let 2 %d; emit v2; emit v1; let 1 v2; emit v1", n), n, 0, n)
	}
}

// P17.3: a variable's number is the one that it has as E is reckoned.
func TestReckoningOfVariables(t *testing.T) {
	got := emitted(t, "ri i i", "take 1 0 :4; let 2 v2,3,*,v1,+; emit v2; jump :0", 1, 2, greatest)
	if want := in(1, 5, joinedExactly(api.PushAdd, 15, greatest)); !slices.Equal(got, want) {
		t.Errorf("%v, want %v", got, want)
	}
}

// P17.3: InTurns: below 0: 0; above MaxTurns: that.
func TestTurns(t *testing.T) {
	for _, n := range append(edges, 3, 4) {
		want := n
		if n < 0 {
			want = 0
		}
		if n > api.MaxTurns {
			want = api.MaxTurns
		}
		emits(t, "ri i", fmt.Sprintf("turns 1 %d; emit v1", n), want)
		emits(t, "ri i", fmt.Sprintf("let 1 %d; turns 1 v1; emit v1", n), want)
	}
	emits(t, "ri i", "turns 1 9223372036854775807,1,+; emit v1", 0)
	emits(t, "ri i", "turns 1 -9223372036854775808,1,-; emit v1", api.MaxTurns)
}

// P17.3: InCount: 0 or less: on to To, and it stays so; else one less, and on to
// the next one.
func TestCount(t *testing.T) {
	for _, n := range edges {
		said := fmt.Sprintf("let 1 %d; count 1 :3; emit 111; emit v1", n)
		if n <= 0 {
			emits(t, "ri i", said, n)
		} else {
			emits(t, "ri i", said, 111, n-1)
		}
	}
	emits(t, "ri i", "turns 1 3; count 1 :4; emit v1; jump :1; emit v1,100,+", 2, 1, 0, 100)
	emits(t, "ri i", "count 1 :2; emit 5; emit 6", 6)
}

// P17.3: InIf: E is 0: on to To.
func TestIf(t *testing.T) {
	for _, n := range edges {
		said := fmt.Sprintf("if %d :2; emit 1; emit 2", n)
		if n == 0 {
			emits(t, "ri", said, 2)
		} else {
			emits(t, "ri", said, 1, 2)
		}
	}
	emits(t, "ri", "if 4294967296,4294967296,* :2; emit 1; emit 2", 2)
	emits(t, "ri", "if 3,4,< :2; emit 1; emit 2", 1, 2)
	emits(t, "ri", "if 4,3,< :2; emit 1; emit 2", 2)
}

// P17.3: InJump: on to To, wherever that is.
func TestJump(t *testing.T) {
	emits(t, "ri", "jump :3; emit 1; jump :5; emit 2; jump :1; emit 3", 2, 1, 3)
	w := begun(t, code(proc("ri", 1, "emit 1; jump :1")))
	goes(t, w, 0)
	for range 5 {
		goes(t, w, 0)
		shows(t, w, "0@1~", "s0:-1 r0:0", "0/0[]", "", "1")
	}
}

// P17.3: InEmit: in the order in which they come, whoever emits.
func TestEmit(t *testing.T) {
	for _, n := range edges {
		emits(t, "ri", fmt.Sprintf("emit %d; emit %d", n, n), n, n)
	}
	w := begun(t, code(proc("i", 1, "emit v0; emit v0"), proc("ri", 1, "spawn 0 5; emit 1; spawn 0 6; emit 2")))
	goes(t, w, 0, 1, 0, 0, 2, 1, 0, 2)
	shows(t, w, "1@4 0@2 0@2", "s0:-1 r0:0", "0/0[]", "", "5 1 6 5 2 6")
}

// P17.3: an E with very many steps, as deep as they go, or one behind the other.
func TestLongReckoning(t *testing.T) {
	const n = 200000
	var deep, flat []api.Push
	for range n {
		deep = append(deep, api.Push{Op: api.PushNum, N: 3})
		flat = append(flat, api.Push{Op: api.PushNum, N: 3}, api.Push{Op: api.PushAdd})
	}
	for range n - 1 {
		deep = append(deep, api.Push{Op: api.PushAdd})
	}
	p := proc("ri", 1, "emit 1; emit 1")
	p.Ins[0].E, p.Ins[1].E = deep, append(expr("0"), flat...)
	w := begun(t, code(p))
	goes(t, w, 0, 0)
	if !slices.Equal(w.Out(), in(3*n, 3*n)) {
		t.Errorf("%v", w.Out())
	}
}
