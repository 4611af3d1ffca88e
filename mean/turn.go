package mean

import (
	"slices"
	"strings"

	"pipewright/api"
	"pipewright/ledger"
)

// turn is a task of a mean at what it does next, which the text has at that
// place.
type turn struct {
	*Mean
	*task
	number int
	at     int
}

// use is what a statement does with an end, in the ledger's words.
type use struct{ end, what int }

// waitsFor is the end that the task has to wait for; none: it may go on. Where
// no statement is next it may.
func (t turn) waitsFor() int {
	b, ok := t.innermost().(*block)
	if !ok {
		return none
	}
	s := b.stmts[b.next]
	e := none
	switch s.Do {
	case api.DoSend, api.DoDrain:
		e = t.end(s.A)
	case api.DoTake, api.DoFor:
		e = t.end(s.B)
	}
	if !t.Waits(e) {
		return none
	}
	if _, is := t.wrong(s); is {
		return none
	}
	return e
}

// uses are in the order in which they are looked at.
func (t turn) uses(s api.Stmt) []use {
	switch s.Do {
	case api.DoClone, api.DoTake, api.DoFor:
		return []use{{t.end(s.B), ledger.Other}}
	case api.DoSend:
		return append([]use{{t.end(s.A), ledger.Through}}, t.usesOfHanded(s)...)
	case api.DoClose, api.DoAbandon, api.DoDrain:
		return []use{{t.end(s.A), ledger.Drops}}
	case api.DoSpawn:
		return t.usesOfHanded(s)
	}
	return nil
}

func (t turn) usesOfHanded(s api.Stmt) []use {
	var list []use
	for n, of := range t.typesOfHanded(s) {
		if of != numbers {
			list = append(list, use{t.end(s.E[n].Name), ledger.Other})
		}
	}
	return list
}

// typesOfHanded are those of a send's or a spawn's E.
func (t turn) typesOfHanded(s api.Stmt) []string {
	if s.Do == api.DoSend {
		return []string{strings.TrimPrefix(t.stages[t.stage].vars[s.A].T, "s")}
	}
	var list []string
	for _, v := range t.stages[t.byName[s.A]].params {
		list = append(list, v.T)
	}
	return list
}

// handed leans on kinds.Check: an E that is no number is a name alone.
func (t turn) handed(s api.Stmt) []api.Item {
	var list []api.Item
	for n, of := range t.typesOfHanded(s) {
		if of == numbers {
			list = append(list, aNumber(t.reckon(s.E[n])))
		} else {
			list = append(list, anEnd(t.end(s.E[n].Name)))
		}
	}
	return list
}

// wrong is the event of the first use that is wrong; false: none is.
func (t turn) wrong(s api.Stmt) (api.Event, bool) {
	uses := t.uses(s)
	for n, u := range uses {
		if kind := t.kindOf(u, s.Do, uses[:n]); kind != 0 {
			return t.event(kind, u.end), true
		}
	}
	return api.Event{}, false
}

// kindOf is what is wrong with a use; 0: nothing. What a spawn hands on twice
// the ledger can't tell, as nothing is moved ahead of the last E.
func (t turn) kindOf(u use, do int, ahead []use) int {
	if do == api.DoSpawn && slices.Contains(ahead, u) {
		return api.EventMoved
	}
	return t.Use(u.end, t.number, u.what)
}

func (t turn) event(kind, end int) api.Event {
	return api.Event{Kind: kind, Task: t.number, At: t.at, End: end}
}

func (t turn) tell(e api.Event) { t.events = append(t.events, e) }
