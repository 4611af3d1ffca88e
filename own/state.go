package own

import "pipewright/api"

// What may be of a variable, each a bit, as States tells them.
const (
	lacks = 1 << iota // on some way there is no end
	has               // on some way there is one
	all   = lacks | has
)

// width is how many variables go into one set: two bits each.
const width = 32

// set is what may be of the variables of a band, side by side, so that many
// are reckoned at once.
type set uint64

func place(v, state int) set { return set(state) << (2 * (v % width)) }

func (s set) of(v int) int { return int(s>>(2*(v%width))) & all }

func join(sets ...set) set {
	var joined set
	for _, s := range sets {
		joined |= s
	}
	return joined
}

// turn is what acts make of a set: what they clear is as they lay it.
type turn struct{ clears, lays set }

// and is the turn with one more act behind it.
func (t turn) and(a api.Act) turn {
	switch a.What {
	case api.ActBind:
		return t.to(a.Var, has)
	case api.ActDrop, api.ActOver:
		return t.to(a.Var, lacks)
	}
	return t
}

func (t turn) to(v, state int) turn {
	spot := place(v, all)
	return turn{t.clears | spot, t.lays&^spot | place(v, state)}
}

func (t turn) behind(s set) set { return s&^t.clears | t.lays }
