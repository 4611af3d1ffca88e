package world

import (
	"slices"

	"pipewright/api"
	"pipewright/ledger"
)

// turn is a task of a world at its next instruction.
type turn struct {
	*World
	*task
	number int
	ins    *api.Ins
}

// use is what an instruction does with an end, in the ledger's words.
type use struct{ end, what int }

// waitsFor is the end that the task has to wait for; none: it may go on.
func (t turn) waitsFor() int {
	e := none
	switch t.ins.Op {
	case api.InSend, api.InGive, api.InDrain:
		e = t.end(t.ins.A)
	case api.InTake:
		e = t.end(t.ins.B)
	}
	if !t.Waits(e) {
		return none
	}
	if _, is := t.wrong(); is {
		return none
	}
	return e
}

// uses are in the order in which they are looked at.
func (t turn) uses() []use {
	switch t.ins.Op {
	case api.InClone, api.InTake:
		return []use{{t.end(t.ins.B), ledger.Other}}
	case api.InSend:
		return []use{{t.end(t.ins.A), ledger.Through}}
	case api.InGive:
		return []use{{t.end(t.ins.A), ledger.Through}, {t.end(t.ins.B), ledger.Other}}
	case api.InClose, api.InAbandon, api.InDrain:
		return []use{{t.end(t.ins.A), ledger.Drops}}
	case api.InSpawn:
		return t.usesOfSpawn()
	}
	return nil
}

func (t turn) usesOfSpawn() []use {
	var list []use
	for _, arg := range t.ins.Args {
		if !isNumber(arg) {
			list = append(list, use{t.end(arg.V), ledger.Other})
		}
	}
	return list
}

// wrong is the event of the first use that is wrong; false: none is.
func (t turn) wrong() (api.Event, bool) {
	uses := t.uses()
	for n, u := range uses {
		if kind := t.kindOf(u, uses[:n]); kind != 0 {
			return t.event(kind, u.end), true
		}
	}
	return api.Event{}, false
}

// kindOf is what is wrong with a use; 0: nothing. What a spawn hands on twice
// the ledger can't tell, as nothing is moved ahead of the last Arg.
func (t turn) kindOf(u use, ahead []use) int {
	if t.ins.Op == api.InSpawn && slices.Contains(ahead, u) {
		return api.EventMoved
	}
	return t.Use(u.end, t.number, u.what)
}

func (t turn) event(kind, end int) api.Event {
	return api.Event{Kind: kind, Task: t.number, At: t.ins.At, End: end}
}

func (t turn) tell(e api.Event) { t.events = append(t.events, e) }

// isNumber: is it an E? lower.Check lets none through that is both, or neither.
func isNumber(arg api.Arg) bool { return len(arg.E) > 0 }
