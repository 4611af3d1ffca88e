package mean

import (
	"strings"

	"pipewright/api"
)

// numbers is their type.
const numbers = "i"

// stage is what tasks need of a Stage, in memory of its own: the program that
// was handed in may change as it is gone through.
type stage struct {
	at     int
	params []api.Var
	vars   map[string]api.Var // what the stage binds, its parameters, too
	body   []api.Stmt
}

// keep leans on kinds.Vars: what a stage binds begins with its parameters.
func (m *Mean) keep(s api.Stage, vars []api.Var) {
	m.byName[strings.Clone(s.Name)] = len(m.stages)
	own := stage{at: s.At, params: vars[:len(s.Params)], vars: map[string]api.Var{}, body: keptStmts(s.Body)}
	for _, v := range vars {
		own.vars[v.Name] = v
	}
	m.stages = append(m.stages, own)
}

func keptStmts(list []api.Stmt) []api.Stmt {
	var own []api.Stmt
	for _, s := range list {
		own = append(own, api.Stmt{
			Do: s.Do, At: s.At,
			A: strings.Clone(s.A), B: strings.Clone(s.B),
			N: s.N, E: keptExprs(s.E),
			Body: keptStmts(s.Body), Else: keptStmts(s.Else),
		})
	}
	return own
}

func keptExprs(list []api.Expr) []api.Expr {
	var own []api.Expr
	for _, e := range list {
		own = append(own, api.Expr{Op: e.Op, Name: strings.Clone(e.Name), N: e.N, L: keptExprs(e.L)})
	}
	return own
}
