package explain

import (
	"testing"

	"pipewright/api"
)

// P13: a way begins with -1, if it is a parameter, and then 0 comes.
func TestParameters(t *testing.T) {
	wantWay(t, code("si", 1, "over 0"), leftAt(0, 0), -1, 0)
	wantWay(t, code("si", 1, "let; over 0"), leftAt(1, 0), -1, 0, 1)
	wantWay(t, code("si", 1, "close 0; close 0"), goneAt(1, 0), -1, 0, 1)
	// Behind -1 comes 0 alone, however near At is.
	p := code("si", 1, "let; let; over 0")
	wantWay(t, p, leftAt(2, 0), -1, 0, 1, 2)
	wantHolds(t, p, leftAt(2, 0), false, l(-1, 2), l(-1, 1, 2), l(0, 1, 2), l(-1, -1, 0, 1, 2), l(-2, 0, 1, 2))
	// The first Params variables are parameters.
	types := "si ri i rsi si"
	for params := -2; params <= 8; params++ {
		for v := range 5 {
			p := code(types, params, "over 0; over 1; over 2; over 3; over 4")
			n := leftAt(v, v)
			switch {
			case v == 2:
				refused(t, p, n)
			case v < params:
				wantWay(t, p, n, upTo(-1, v+1)...)
			default:
				nowhere(t, p, n)
			}
		}
	}
	for _, params := range wild {
		p := code("si ri", params, "let; over 1")
		if params > 0 {
			wantWay(t, p, leftAt(1, 1), -1, 0, 1)
		} else {
			nowhere(t, p, leftAt(1, 1))
		}
	}
	// Where 0 is led back to, it is the beginning all the same.
	wantWay(t, code("si", 1, "if :2; close 0; jump :0"), maybeAt(1, 0), -1, 0, 1, 2, 0, 1)
	wantWay(t, code("si", 1, "close 0; jump :0"), goneAt(0, 0), -1, 0, 1, 0)
}

// P13: a way begins with an instruction that binds the variable, of each kind;
// with none that does anything else to it.
func TestBinders(t *testing.T) {
	for _, line := range []string{"chan 0 1", "chan 1 0", "chan 0 9", "chan -1 0", "chan 0 0", "clone 0 1", "clone 0 0", "clone 0 9", "take 0 1 :9", "take 0 0 :9", "take 0 -1 :0", "take 0 1 :2"} {
		p := code("ri rri", 0, "let; "+line+"; over 0; exit")
		wantWay(t, p, leftAt(2, 0), 1, 2)
		wantHolds(t, p, leftAt(2, 0), false, l(0, 1, 2), l(-1, 0, 1, 2), l(2), l(1), l(2, 2))
		// Nobody else's.
		if line != "chan 0 1" && line != "chan 1 0" {
			nowhere(t, code("ri rri", 0, "let; "+line+"; over 1; exit"), leftAt(2, 1))
		}
	}
	for _, line := range []string{
		"chan 1 1", "clone 1 0", "take 1 0 :2", "send 0", "give 0 1", "give 1 0", "close 0", "abandon 0", "drain 0", "spawn 0", "over 0",
		"let 0", "emit 0", "turns 0", "count 0 :2", "if 0 :2", "jump 0 :2", "none 0",
	} {
		nowhere(t, code("ri rri", 0, "let; "+line+"; over 0; exit"), leftAt(2, 0))
		nowhere(t, code("ri rri", 0, "let; "+line+"; chan 0 9; exit"), keptAt(2, 0))
		nowhere(t, code("ri rri", 0, "let; "+line+"; close 0; exit"), goneAt(2, 0))
	}
	// An Op that is none binds nothing.
	for _, op := range append(l(0, 18), wild...) {
		p := code("ri rri", 0, "let; over 0")
		p.Ins[0] = api.Ins{Op: op, Args: []api.Arg{{V: 0}}}
		nowhere(t, p, leftAt(1, 0))
	}
}

// P13: a parameter that is bound again: ways begin with -1, and with what binds
// it.
func TestParametersBoundAgain(t *testing.T) {
	p := code("si ri", 2, "close 0; chan 0 1; over 0; over 1")
	wantWay(t, p, leftAt(2, 0), 1, 2)
	wantHolds(t, p, leftAt(2, 0), true, l(-1, 0, 1, 2))
	wantWay(t, p, keptAt(1, 1), -1, 0, 1)
	wantNone(t, p, keptAt(1, 0))
	wantWay(t, p, leftAt(3, 1), 1, 2, 3)
	// As long: the one with -1 is lower.
	p = code("si ri", 1, "if :2; chan 0 1; over 0")
	wantWay(t, p, leftAt(2, 0), 1, 2)
	p = code("si ri", 1, "if :3; chan 0 1; jump :3; over 0")
	wantWay(t, p, leftAt(3, 0), -1, 0, 3)
	wantHolds(t, p, leftAt(3, 0), true, l(1, 2, 3), l(-1, 0, 1, 2, 3))
	// Bound at once, where it begins.
	p = code("si ri", 1, "chan 0 1; over 0")
	wantWay(t, p, keptAt(0, 0), -1, 0)
	wantWay(t, p, leftAt(1, 0), 0, 1)
}

// P13: round a loop the first instruction is the note's At, too.
func TestFromAtToAt(t *testing.T) {
	p := code("si ri", 0, "chan 0 1; jump :0")
	wantWay(t, p, keptAt(0, 0), 0, 1, 0)
	wantHolds(t, p, keptAt(0, 0), false, l(0), l(0, 0), l(1, 0), l(-1, 0))
	wantHolds(t, p, keptAt(0, 0), true, l(0, 1, 0, 1, 0))
	wantNone(t, p, goneAt(0, 0))
	p = code("si ri", 0, "let; clone 0 0; close 0; jump :1")
	wantWay(t, p, goneAt(1, 0), 1, 2, 3, 1)
	wantNone(t, p, keptAt(1, 0))
	p = code("si ri", 0, "let; clone 0 0; if :3; jump :1")
	wantWay(t, p, keptAt(1, 0), 1, 2, 3, 1)
	wantNone(t, p, maybeAt(1, 0))
	p = code("ri rri", 0, "let; take 0 1 :4; if :1; jump :1; exit")
	wantWay(t, p, keptAt(1, 0), 1, 2, 1)
	p = code("ri rri", 0, "take 0 0 :3; drain 0; jump :0; exit")
	wantWay(t, p, goneAt(0, 0), 0, 1, 2, 0)
	wantNone(t, p, keptAt(0, 0))
}

// P13: of an InTake the end is there behind it only where the way goes on to
// the next instruction.
func TestTakeFirst(t *testing.T) {
	// 0 take on to 3, 1 let 2 exit, 3 over
	p := code("ri rri", 0, "take 0 1 :3; let; exit; over 0")
	nowhere(t, p, leftAt(3, 0))
	p = code("ri rri", 0, "take 0 1 :3; let; let; over 0")
	wantWay(t, p, leftAt(3, 0), 0, 1, 2, 3)
	wantHolds(t, p, leftAt(3, 0), false, l(0, 3))
	// Behind To it is neither there nor gone.
	p = code("ri rri", 0, "take 0 1 :3; let; exit; spawn 0")
	nowhere(t, p, goneAt(3, 0))
	// To is the next one: the way goes on to that, wherever To is.
	p = code("ri rri", 0, "take 0 1 :1; over 0")
	wantWay(t, p, leftAt(1, 0), 0, 1)
	p = code("ri rri", 0, "take 0 1 :1; close 0; close 0")
	nowhere(t, p, goneAt(1, 0))
	wantWay(t, p, goneAt(2, 0), 0, 1, 2)
	// To is itself.
	p = code("ri rri", 0, "take 0 1 :0; over 0")
	wantWay(t, p, leftAt(1, 0), 0, 1)
	wantHolds(t, p, leftAt(1, 0), false, l(0, 0, 1))
	nowhere(t, p, keptAt(0, 0))
	// To is ahead of it.
	p = code("ri rri", 0, "over 0; take 0 1 :0; exit")
	nowhere(t, p, leftAt(0, 0))
	p = code("ri rri", 0, "over 0; take 0 1 :0; jump :0")
	wantWay(t, p, leftAt(0, 0), 1, 2, 0)
	wantHolds(t, p, leftAt(0, 0), false, l(1, 0))
	// There is no next one, or To is none.
	nowhere(t, code("ri rri", 0, "over 0; take 0 1 :0"), leftAt(0, 0))
	wantWay(t, code("ri rri", 0, "take 0 1 :9; over 0"), leftAt(1, 0), 0, 1)
	wantWay(t, code("ri rri", 0, "take 0 1 :-1; over 0"), leftAt(1, 0), 0, 1)
	// All others go on to the next one alone, whatever To is.
	for _, line := range []string{"chan 0 1 :2", "clone 0 1 :2"} {
		p := code("ri rri", 0, line+"; let; over 0")
		wantWay(t, p, leftAt(2, 0), 0, 1, 2)
		wantHolds(t, p, leftAt(2, 0), false, l(0, 2))
	}
}
