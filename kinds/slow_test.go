package kinds

import (
	"math"
	"slices"

	"pipewright/api"
	"pipewright/render"
)

// The second way: each name that is bound is known from one number of a
// statement up to another; all faults that there are are gathered, each with
// a key that tells where the chapter has it; the one with the least key is it.

type span struct {
	stage int
	api.Var
	from, to int
}

type keyed struct {
	key []int
	api.Fault
}

type slow struct {
	p      api.Program
	spans  []span
	faults []keyed
	next   int
}

func slowCheck(p api.Program) api.Fault {
	_, f := slowVars(p)
	return f
}

func slowVars(p api.Program) ([][]api.Var, api.Fault) {
	if f := render.Check(p); f.Code != 0 {
		return nil, f
	}
	w := slow{p: p}
	for i := range p.Stages {
		w.stage(i)
	}
	mains := 0
	for _, s := range p.Stages {
		if s.Name == "main" && len(s.Params) == 1 && s.Params[0].T == "ri" {
			mains++
		}
	}
	if mains == 0 {
		w.tell(api.ErrMain, -1, math.MaxInt)
	}
	if len(w.faults) > 0 {
		return nil, slices.MinFunc(w.faults, func(a, b keyed) int { return slices.Compare(a.key, b.key) }).Fault
	}
	all := make([][]api.Var, len(p.Stages))
	for _, s := range w.spans {
		all[s.stage] = append(all[s.stage], s.Var)
	}
	return all, api.Fault{}
}

func (w *slow) tell(code, at int, key ...int) {
	w.faults = append(w.faults, keyed{key, api.Fault{Code: code, At: at}})
}

const (
	ofName = iota
	ofParams
	ofStmts
	ofAll
)

func (w *slow) stage(i int) {
	s := w.p.Stages[i]
	at := -2 - i
	for _, other := range w.p.Stages[:i] {
		if other.Name == s.Name {
			w.tell(api.ErrTwice, at, i, ofName)
		}
	}
	end := w.next + len(stmtsIn(s.Body))
	for k, param := range s.Params {
		for _, other := range s.Params[:k] {
			if other.Name == param.Name {
				w.tell(api.ErrTwice, at, i, ofParams)
			}
		}
		w.spans = append(w.spans, span{i, api.Var(param), w.next, end})
	}
	w.block(i, s.Body)
	if bound := w.boundIn(i, ""); bound > api.MaxVars {
		w.tell(api.ErrMany, at, i, ofAll)
	}
}

// boundIn counts how often a name (or any) is bound in a stage so far.
func (w *slow) boundIn(stage int, name string) int {
	n := 0
	for _, s := range w.spans {
		if s.stage == stage && (name == "" || s.Name == name) {
			n++
		}
	}
	return n
}

// typeAt is "" where the name is not known.
func (w *slow) typeAt(stage int, name string, number int) string {
	for _, s := range w.spans {
		if s.stage == stage && s.Name == name && s.from <= number && number < s.to {
			return s.T
		}
	}
	return ""
}

func (w *slow) block(stage int, body []api.Stmt) {
	end := w.next + len(stmtsIn(body))
	for _, s := range body {
		number := w.next
		w.next++
		w.twice(stage, number, s)
		w.used(stage, number, s)
		w.exprs(stage, number, s)
		w.bind(stage, number, s, end)
		w.block(stage, s.Body)
		w.block(stage, s.Else)
	}
}

func (w *slow) twice(stage, number int, s api.Stmt) {
	binds := map[int][]string{
		api.DoLet: {s.A}, api.DoChan: {s.A, s.B}, api.DoClone: {s.A}, api.DoTake: {s.A}, api.DoFor: {s.A},
	}[s.Do]
	for i, name := range binds {
		if w.boundIn(stage, name) > 0 || slices.Contains(binds[:i], name) {
			w.tell(api.ErrTwice, number, stage, ofStmts, number, 0)
		}
	}
}

func (w *slow) used(stage, number int, s api.Stmt) {
	use := map[int]struct {
		name  string
		first byte
	}{
		api.DoSet: {s.A, 'i'}, api.DoClone: {s.B, 's'}, api.DoSend: {s.A, 's'}, api.DoClose: {s.A, 's'},
		api.DoAbandon: {s.A, 'r'}, api.DoDrain: {s.A, 'r'}, api.DoTake: {s.B, 'r'}, api.DoFor: {s.B, 'r'},
	}[s.Do]
	if use.name == "" {
		return
	}
	if t := w.typeAt(stage, use.name, number); t == "" {
		w.tell(api.ErrNone, number, stage, ofStmts, number, 1)
	} else if t[0] != use.first {
		w.tell(api.ErrType, number, stage, ofStmts, number, 2)
	}
}

func (w *slow) exprs(stage, number int, s api.Stmt) {
	key := []int{stage, ofStmts, number}
	types := make([]string, len(s.E))
	switch s.Do {
	case api.DoChan:
		if s.N == 0 || s.N > 5 {
			w.tell(api.ErrRange, number, append(key, 6)...)
		}
		if len(s.T) > 3 {
			w.tell(api.ErrType, number, append(key, 7)...)
		}
	case api.DoSend:
		if t := w.typeAt(stage, s.A, number); t != "" {
			types[0] = t[1:]
		}
	case api.DoSpawn:
		k := slices.IndexFunc(w.p.Stages[:stage], func(above api.Stage) bool { return above.Name == s.A })
		if k < 0 {
			w.tell(api.ErrStage, number, append(key, 3)...)
			return
		}
		if len(w.p.Stages[k].Params) != len(s.E) {
			w.tell(api.ErrCount, number, append(key, 4)...)
			return
		}
		for e, param := range w.p.Stages[k].Params {
			types[e] = param.T
		}
	default:
		for e := range types {
			types[e] = "i"
		}
	}
	for e, t := range types {
		w.expr(stage, number, s.E[e], t, append(slices.Clone(key), 5, e))
	}
}

func (w *slow) expr(stage, number int, x api.Expr, t string, key []int) {
	parts := partsOf(&x)
	if t != "i" && (len(parts) > 1 || x.Op != api.OpName) {
		w.tell(api.ErrType, number, append(slices.Clone(key), 0)...)
	}
	for k, part := range parts {
		if part.Op != api.OpName {
			continue
		}
		switch w.typeAt(stage, part.Name, number) {
		case t:
		case "":
			w.tell(api.ErrNone, number, append(slices.Clone(key), 1, k)...)
		default:
			w.tell(api.ErrType, number, append(slices.Clone(key), 1, k)...)
		}
	}
}

func (w *slow) bind(stage, number int, s api.Stmt, end int) {
	add := func(name, t string, to int) {
		w.spans = append(w.spans, span{stage, api.Var{Name: name, T: t}, number + 1, to})
	}
	switch s.Do {
	case api.DoLet:
		add(s.A, "i", end)
	case api.DoChan:
		add(s.A, "s"+s.T, end)
		add(s.B, "r"+s.T, end)
	case api.DoClone:
		add(s.A, w.typeAt(stage, s.B, number), end)
	case api.DoTake, api.DoFor:
		t := w.typeAt(stage, s.B, number)
		add(s.A, t[min(1, len(t)):], number+1+len(stmtsIn(s.Body)))
	}
}
