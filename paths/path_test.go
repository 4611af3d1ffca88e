package paths

import (
	"testing"

	"pipewright/api"
)

// P7.3: from and to the same: it alone, also where a loop leads back to it.
func TestPathToItself(t *testing.T) {
	for _, c := range []string{
		"exit", "let", "jump:0", "if:0", "let exit", "jump:1 jump:0", "take:3 emit jump:0 drain over exit",
		"if:0 if:1 if:2 exit", "jump:2 let exit", "none none none",
	} {
		p := code(c)
		for i := range p.Ins {
			wantPath(t, p, i, i, i)
		}
	}
	for _, op := range someOps() {
		for to := -1; to < 6; to++ {
			wantPath(t, five(op, to), 2, 2, 2)
		}
	}
}

// P7.3: from or to is no instruction.
func TestPathOfNone(t *testing.T) {
	for _, p := range []api.Proc{{}, code("exit"), code("if:2 jump:0 exit"), code("jump:3 jump:-1 if:3"), code("let let let")} {
		n := len(p.Ins)
		for _, none := range append(wild, n, n+1) {
			wantPath(t, p, none, none)
			wantPath(t, p, -1, none)
			wantPath(t, p, none, n)
			for i := range n {
				wantPath(t, p, i, none)
				wantPath(t, p, none, i)
			}
		}
	}
	// To leads to none, as the way would go.
	for _, none := range append(wild, 5) {
		for _, op := range []int{api.InIf, api.InJump, api.InTake, api.InCount} {
			wantPath(t, five(op, none), 2, none)
			wantPath(t, five(op, none), none, 2)
		}
	}
}

// P7.3: one way alone, or none.
func TestPathWithoutChoice(t *testing.T) {
	for _, c := range []struct {
		said     string
		from, to int
		want     []int
	}{
		{"let exit", 0, 1, l(0, 1)},
		{"let exit", 1, 0, nil},
		{"let let let let exit", 0, 4, upTo(5)},
		{"let let let let exit", 1, 3, l(1, 2, 3)},
		{"let let let let exit", 3, 1, nil},
		{"let exit let exit", 0, 3, nil},
		{"let exit let exit", 2, 3, l(2, 3)},
		{"exit:1 exit", 0, 1, nil},
		{"let:2 exit exit", 0, 2, nil},
		{"jump:2 let exit", 0, 1, nil},
		{"jump:2 let exit", 0, 2, l(0, 2)},
		{"jump:2 let exit", 1, 2, l(1, 2)},
		{"jump:3 exit jump:1 jump:2", 0, 1, l(0, 3, 2, 1)},
		{"jump:9 exit", 0, 1, nil},
		{"jump:-1 exit", 0, 1, nil},
		{"if:9 exit exit", 0, 2, nil},
		// by a loop's back
		{"take:3 emit jump:0 drain over exit", 0, 5, l(0, 3, 4, 5)},
		{"take:3 emit jump:0 drain over exit", 1, 5, l(1, 2, 0, 3, 4, 5)},
		{"take:3 emit jump:0 drain over exit", 2, 1, l(2, 0, 1)},
		{"take:3 emit jump:0 drain over exit", 2, 3, l(2, 0, 3)},
		{"take:3 emit jump:0 drain over exit", 3, 1, nil},
		{"turns count:4 emit jump:1 exit", 2, 4, l(2, 3, 1, 4)},
		{"turns count:4 emit jump:1 exit", 3, 2, l(3, 1, 2)},
		{"turns count:4 emit jump:1 exit", 3, 0, nil},
		{"jump:1 jump:2 jump:3 jump:0", 2, 1, l(2, 3, 0, 1)},
		// the short one, whatever its numbers
		{"if:4 let let let exit", 0, 4, l(0, 4)},
		{"if:4 jump:2 jump:3 jump:5 jump:5 exit", 0, 5, l(0, 4, 5)},
		{"jump:5 let let exit jump:0 if:1 jump:3 exit", 5, 3, l(5, 6, 3)},
		{"if:2 jump:0 exit", 1, 2, l(1, 0, 2)},
	} {
		wantPath(t, code(c.said), c.from, c.to, c.want...)
	}
}

// P7.3: of several of one length the one with the lower number where they
// differ first. ways is how many of that length there are.
func TestPathWithChoice(t *testing.T) {
	for _, c := range []struct {
		said           string
		from, to, ways int
		want           []int
	}{
		// early: 0 1 2 5 and 0 3 4 5
		{"if:3 let jump:5 let let exit", 0, 5, 2, l(0, 1, 2, 5)},
		// early, the lower one by To: 3 0 1 6 and 3 4 5 6
		{"let jump:6 exit if:0 let let exit", 3, 6, 2, l(3, 0, 1, 6)},
		// early, the lower one by To, just ahead: 2 1 5 and 2 3 5
		{"let jump:5 if:1 jump:5 let exit", 2, 5, 2, l(2, 1, 5)},
		// late: 0 1 2 3 4 7 and 0 1 2 5 6 7
		{"let let if:5 let jump:7 let let exit", 0, 7, 2, l(0, 1, 2, 3, 4, 7)},
		// late, the lower one by To: 4 5 0 1 8 and 4 5 6 7 8
		{"let jump:8 exit exit let if:0 let let exit", 4, 8, 2, l(4, 5, 0, 1, 8)},
		// 0 1 8 9 and 0 2 3 9: the first difference counts, not the last one
		{"if:2 jump:8 let jump:9 exit exit exit exit let exit", 0, 9, 2, l(0, 1, 8, 9)},
		// 3 0 8 9 and 3 4 1 9: the same, by To
		{"jump:8 jump:9 exit if:0 jump:1 exit exit exit let exit", 3, 9, 2, l(3, 0, 8, 9)},
		// 0 1 9 10 12 and 0 5 2 3 12: nor the sum
		{"if:5 jump:9 let jump:12 exit jump:2 exit exit exit let jump:12 exit exit", 0, 12, 2, l(0, 1, 9, 10, 12)},
		// 4 1 9 12 and 4 5 2 12: nor the sum, by To
		{"exit jump:9 jump:12 exit if:1 jump:2 exit exit exit jump:12 exit exit exit", 4, 12, 2, l(4, 1, 9, 12)},
		// one choice behind the other: 0 (1 2 | 3 4) 5 (6 7 | 8 9) 10
		{"if:3 let jump:5 let let if:8 let jump:10 let let exit", 0, 10, 4, l(0, 1, 2, 5, 6, 7, 10)},
		// the same, the second time the lower one by To: 3 (4 5 | 6 7) 8 (0 1 | 9 10) 12
		{"let jump:12 exit if:6 let jump:8 let let if:0 let jump:12 exit exit", 3, 12, 4, l(3, 4, 5, 8, 0, 1, 12)},
		// a choice within each of two: 0 (1 (2 | 4) | 5 (3 | 6)) 7 8
		{"if:5 if:4 jump:7 jump:7 jump:7 if:3 let let exit", 0, 8, 4, l(0, 1, 2, 7, 8)},
		// of the lower choice the lower one is too long: 0 1 2 3 8, 0 1 7 8, 0 4 5 8
		{"if:4 if:7 let jump:8 let jump:8 exit let exit", 0, 8, 2, l(0, 1, 7, 8)},
		// the lower choice leads nowhere
		{"if:3 let exit let exit", 0, 4, 1, l(0, 3, 4)},
		{"let exit if:0 let exit", 2, 4, 1, l(2, 3, 4)},
		// the lower choice goes round
		{"let if:0 exit", 1, 2, 1, l(1, 2)},
		// the lower choice is longer by one
		{"if:3 let jump:4 let exit", 0, 4, 1, l(0, 3, 4)},
		// both parts of a choice are one
		{"if:1 if:2 if:3 exit", 0, 3, 1, upTo(4)},
	} {
		for _, op := range forks {
			p := code(c.said)
			for i := range p.Ins {
				if p.Ins[i].Op == api.InIf {
					p.Ins[i].Op = op
				}
			}
			wantPath(t, p, c.from, c.to, c.want...)
			wantIs(t, p, c.want, true)
			if n := shortest(p, c.from, c.to, len(c.want)); n != c.ways {
				t.Errorf("%s: %d ways from %d to %d, not %d", c.said, n, c.from, c.to, c.ways)
			}
		}
	}
}

// shortest counts the ways of that length.
func shortest(p api.Proc, from, to, length int) int {
	count := 0
	for _, way := range slowWays(p, from, length) {
		if len(way) == length && way[length-1] == to {
			count++
		}
	}
	return count
}

// P7.3: each Op between two others.
func TestPathByEachOp(t *testing.T) {
	for _, op := range someOps() {
		p := five(op, 4)
		switch {
		case op == api.InExit:
			wantPath(t, p, 0, 3)
			wantPath(t, p, 0, 4)
		case op == api.InJump:
			wantPath(t, p, 0, 3)
			wantPath(t, p, 0, 4, 0, 1, 2, 4)
		case leadsOn(op):
			wantPath(t, p, 0, 3, 0, 1, 2, 3)
			wantPath(t, p, 0, 4, 0, 1, 2, 3, 4)
		default:
			wantPath(t, p, 0, 3, 0, 1, 2, 3)
			wantPath(t, p, 0, 4, 0, 1, 2, 4)
		}
		wantPath(t, p, 0, 2, 0, 1, 2)
		wantPath(t, p, 2, 0)
	}
}
