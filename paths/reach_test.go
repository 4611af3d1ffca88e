package paths

import (
	"slices"
	"testing"

	"pipewright/api"
)

// P7.2
func TestReach(t *testing.T) {
	for _, c := range []struct {
		said string
		want []int
	}{
		{"", nil},
		{"exit", l(0)},
		{"let", l(0)},
		{"none", l(0)},
		{"jump:0", l(0)},
		{"jump:1", l(0)},
		{"jump:-1", l(0)},
		{"if:0", l(0)},
		{"if:1", l(0)},
		{"exit exit", l(0)},
		{"exit jump:0", l(0)},
		{"exit if:1 exit", l(0)},
		{"let exit", l(0, 1)},
		{"let emit chan clone send give close abandon drain spawn turns over none exit", upTo(14)},
		// loops that lead back
		{"jump:1 jump:0", l(0, 1)},
		{"take:3 emit jump:0 drain over exit", upTo(6)},
		{"turns count:4 emit jump:1 exit", upTo(5)},
		{"turns count:9 emit jump:1 exit", upTo(4)},
		{"let jump:0 exit", l(0, 1)},
		{"let let jump:1 let exit", l(0, 1, 2)},
		{"let jump:1 exit", l(0, 1)},
		// what nothing leads to
		{"jump:2 let exit", l(0, 2)},
		{"jump:3 let jump:1 exit", l(0, 3)},
		{"jump:2 if:2 exit if:0", l(0, 2)},
		{"let exit let let exit", l(0, 1)},
		{"let jump:5 let let exit exit exit", l(0, 1, 5)},
		// by To alone
		{"if:3 let exit emit exit", upTo(5)},
		{"count:3 exit exit emit exit", l(0, 1, 3, 4)},
		{"take:4 exit exit exit jump:2", l(0, 1, 2, 4)},
		{"jump:4 exit let jump:1 jump:2", upTo(5)},
		{"jump:5 exit jump:1 jump:2 jump:3 jump:4", upTo(6)},
		{"if:5 exit exit jump:1 exit jump:3", l(0, 1, 3, 5)},
		// To that is no instruction
		{"if:9 exit exit", l(0, 1)},
		{"if:-1 exit exit", l(0, 1)},
		{"if:3 exit exit", l(0, 1)},
		{"let jump:3 exit", l(0, 1)},
		{"let jump:-1 exit", l(0, 1)},
		// To of those that have none
		{"let:2 exit exit", l(0, 1)},
		{"emit:2 exit:2 exit", l(0, 1)},
		{"turns:3 over:3 exit exit", l(0, 1, 2)},
		// several come to the same one
		{"if:3 if:3 if:3 exit", upTo(4)},
		{"if:0 if:1 if:2 jump:3 exit", upTo(4)},
	} {
		wantReach(t, code(c.said), c.want...)
	}
}

// P7.2: the first one alone, where it is InExit, whatever stands behind it.
func TestReachOfExitFirst(t *testing.T) {
	for _, op := range someOps() {
		for to := -1; to < 6; to++ {
			p := api.Proc{Ins: slices.Repeat([]api.Ins{{Op: op, To: to}}, 5)}
			p.Ins[0] = api.Ins{Op: api.InExit, To: to}
			wantReach(t, p, 0)
		}
	}
}

// P7.2: each Op as the first of three.
func TestReachOfEachOp(t *testing.T) {
	for _, op := range someOps() {
		p := code("let exit exit")
		p.Ins[0] = api.Ins{Op: op, To: 2}
		switch {
		case op == api.InExit:
			wantReach(t, p, 0)
		case op == api.InJump:
			wantReach(t, p, 0, 2)
		case leadsOn(op):
			wantReach(t, p, 0, 1)
		default:
			wantReach(t, p, 0, 1, 2)
		}
	}
}
