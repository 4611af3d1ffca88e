package explain

import (
	"pipewright/api"
	"pipewright/own"
	"pipewright/paths"
)

// begin stands first in ways on which the stage begins.
const begin = -1

// What is known of the end where a way has come to.
const (
	first = iota // the way has only begun there
	gone         // it is not there
	there        // it is there
)

// spot is an instruction (or begin) as a way comes to it. What may follow on a
// way, and what it shows, hangs on its last spot alone.
type spot struct{ at, state int }

// turn is what an instruction does to the end, as it is left behind: a bind
// comes behind all drops.
type turn struct{ drops, binds bool }

// inquiry is into one note of a Proc.
type inquiry struct {
	api.Proc
	api.Note
	turns []turn
}

func newInquiry(p api.Proc, n api.Note) *inquiry {
	q := &inquiry{p, n, make([]turn, len(p.Ins))}
	for i := range q.turns {
		q.each(i, func(what int) {
			switch what {
			case api.ActDrop, api.ActOver:
				q.turns[i].drops = true
			case api.ActBind:
				q.turns[i].binds = true
			}
		})
	}
	return q
}

// each hands over what an instruction does to the variable, in order.
func (q *inquiry) each(i int, found func(what int)) {
	for _, a := range own.Acts(q.Proc, i) {
		if a.Var == q.Var {
			found(a.What)
		}
	}
}

// isFirst tells whether a way may begin with a number.
func (q *inquiry) isFirst(i int) bool {
	if i == begin {
		return q.Var < q.Params
	}
	return i >= 0 && i < len(q.turns) && q.turns[i].binds
}

// comes tells whether there is a new end behind an instruction, as it goes on
// to another one.
func (q *inquiry) comes(i, to int) bool {
	return i == begin || q.turns[i].binds && (q.Ins[i].Op != api.InTake || to == i+1)
}

// next tells what comes of an instruction, or of begin, rising.
func (q *inquiry) next(i int) []int {
	if i == begin {
		return []int{0}
	}
	return paths.Next(q.Proc, i)
}

// onward hands over the spots that may follow one on a way, the lower numbers
// first.
func (q *inquiry) onward(s spot, found func(s spot)) {
	for _, to := range q.next(s.at) {
		switch {
		case q.comes(s.at, to):
			found(spot{to, there})
		case s.state == first: // whether the end is there, this way does not show
		case q.turns[s.at].drops:
			found(spot{to, gone})
		default:
			found(spot{to, s.state})
		}
	}
}

// shows tells whether a way that ends at a spot shows that the rule is broken.
func (q *inquiry) shows(s spot) bool {
	if s.at != q.At || s.state == first {
		return false
	}
	broken, has := false, s.state == there
	q.each(s.at, func(what int) {
		broken = broken || breaks(q.Rule, what, has)
		// A bind is not counted: the rules ask for what was there ahead of it.
		has = has && what != api.ActDrop && what != api.ActOver
	})
	return broken
}

// breaks tells whether an act breaks a rule, as the end is there or not.
func breaks(rule, what int, has bool) bool {
	switch rule {
	case api.RuleKept:
		return what == api.ActBind && has
	case api.RuleLeft:
		return what == api.ActOver && has
	}
	return (what == api.ActUse || what == api.ActDrop) && !has
}
