package explain

import (
	"slices"
	"testing"

	"pipewright/api"
)

// refused: Why has ErrRange at -1, and Holds is false of all short lists.
func refused(t *testing.T, p api.Proc, n api.Note) {
	t.Helper()
	wantFault(t, p, n, fault(api.ErrRange, -1))
	eachList(-2, min(len(p.Ins), 4)+1, 4, func(list []int) { wantHolds(t, p, n, false, list) })
}

// busy breaks each rule by each variable of an end that it has, by the first
// two at the first instruction that does anything to them.
func busy(types string) api.Proc {
	return code(types, 2, "spawn 0 0 1 1; chan 0 1; chan 0 1; over 0; over 1; exit")
}

// P13.1 and P13.2: a Rule that is none.
func TestNoRule(t *testing.T) {
	p := busy("si ri")
	wantWay(t, p, goneAt(0, 0), -1, 0)
	wantWay(t, p, maybeAt(0, 1), -1, 0)
	wantWay(t, p, keptAt(2, 0), 1, 2)
	wantWay(t, p, leftAt(3, 0), 2, 3)
	for _, rule := range append(slices.Clone(wild), -1, 0, 5, 6) {
		for at := range 4 {
			refused(t, p, api.Note{Rule: rule, At: at, Var: 0})
		}
	}
}

// P13.1 and P13.2: an At that is no instruction's number.
func TestNoInstruction(t *testing.T) {
	p := busy("si ri")
	for _, rule := range rules {
		for _, at := range append(slices.Clone(wild), -1, 6, 7) {
			refused(t, p, api.Note{Rule: rule, At: at, Var: 0})
		}
		for _, at := range l(-1, 0, 1) {
			refused(t, code("si ri", 2, ""), api.Note{Rule: rule, At: at, Var: 0})
		}
	}
	// The first and the last one are some.
	wantWay(t, code("si", 1, "over 0; let; over 0"), leftAt(0, 0), -1, 0)
	wantWay(t, code("si", 1, "let; let; over 0"), leftAt(2, 0), -1, 0, 1, 2)
}

// P13.1 and P13.2: a Var that is none, or none of an end.
func TestNoVariable(t *testing.T) {
	p := busy("si ri")
	for _, rule := range rules {
		for _, v := range append(slices.Clone(wild), -1, 2, 3) {
			p := busy("si ri")
			for i := range p.Ins {
				p.Ins[i].A, p.Ins[i].B = v, v
				for k := range p.Ins[i].Args {
					p.Ins[i].Args[k].V = v
				}
			}
			for at := range p.Ins {
				refused(t, p, api.Note{Rule: rule, At: at, Var: v})
			}
		}
		for at := range p.Ins {
			refused(t, busy("i ri"), api.Note{Rule: rule, At: at, Var: 0})
			refused(t, busy("- ri"), api.Note{Rule: rule, At: at, Var: 0})
			refused(t, busy("si s"), api.Note{Rule: rule, At: at, Var: 1})
			refused(t, busy("si -"), api.Note{Rule: rule, At: at, Var: 1})
			refused(t, busy(""), api.Note{Rule: rule, At: at, Var: 0})
		}
	}
	// More than one byte are enough, whatever they are.
	for _, types := range []string{"si ri", "?? ..", "ii é", "srsrsrsri rrrrrr"} {
		wantWay(t, busy(types), goneAt(0, 0), -1, 0)
		wantWay(t, busy(types), maybeAt(0, 1), -1, 0)
		wantWay(t, busy(types), leftAt(4, 1), 2, 3, 4)
	}
	// The last one is one; those beside it may be none.
	wantWay(t, busy("- ri"), goneAt(0, 1), -1, 0)
	wantWay(t, busy("si i"), goneAt(0, 0), -1, 0)
}

// P13.1: all faults at once are one.
func TestFaultsAtOnce(t *testing.T) {
	refused(t, api.Proc{}, api.Note{})
	refused(t, api.Proc{Params: 5}, api.Note{Rule: 1})
	refused(t, busy("si ri"), api.Note{Rule: 9, At: 99, Var: 99})
	refused(t, busy("si ri"), api.Note{Rule: -1, At: -1, Var: -1})
	// Each of them comes ahead of ErrNone.
	p := code("si i", 0, "let; exit")
	wantNone(t, p, goneAt(0, 0))
	refused(t, p, api.Note{Rule: 0, At: 0, Var: 0})
	refused(t, p, goneAt(2, 0))
	refused(t, p, goneAt(0, 1))
	refused(t, p, goneAt(0, 2))
}

// nowhere: Why has ErrNone at -1, and Holds is false of all short lists.
func nowhere(t *testing.T, p api.Proc, n api.Note) {
	t.Helper()
	wantNone(t, p, n)
	eachList(-2, len(p.Ins)+1, 4, func(list []int) { wantHolds(t, p, n, false, list) })
}

// P13.1: ErrNone where no way shows it.
func TestNoWay(t *testing.T) {
	for _, rule := range rules {
		note := func(at int) api.Note { return api.Note{Rule: rule, At: at, Var: 0} }
		// Nothing binds it, though it is none on all ways.
		nowhere(t, code("si", 0, "close 0"), note(0))
		nowhere(t, code("si", 0, "send 0; over 0; close 0; over 0"), note(2))
		// Nothing is done to it.
		nowhere(t, code("si ri", 1, "let; close 1; exit"), note(1))
		nowhere(t, code("si", 1, "exit"), note(0))
		// What binds it is behind it, and nothing leads back.
		nowhere(t, code("si ri", 0, "spawn 0 0; over 0; chan 0 1"), note(0))
		nowhere(t, code("si ri", 0, "spawn 0 0; over 0; chan 0 1"), note(1))
		// Nothing leads there.
		nowhere(t, code("si", 1, "jump :2; spawn 0 0; exit"), note(1))
		nowhere(t, code("si", 1, "exit; over 0"), note(1))
		nowhere(t, code("si", 1, "jump :9; over 0"), note(1))
		nowhere(t, code("si ri", 0, "chan 0 1; jump :1; over 0"), note(2))
	}
	nowhere(t, code("si", 1, "close 0; over 0"), leftAt(1, 0))
	nowhere(t, code("si", 1, "send 0; close 0; over 0"), goneAt(0, 0))
	nowhere(t, code("si", 1, "send 0; close 0; over 0"), maybeAt(1, 0))
	nowhere(t, code("si ri", 1, "close 0; chan 0 1; exit"), keptAt(1, 0))
}
