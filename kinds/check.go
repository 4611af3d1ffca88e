package kinds

import (
	"strings"

	"pipewright/api"
	"pipewright/render"
)

// checker goes through a program that may stand as a text, which bounds how
// deep it is.
type checker struct {
	names // of the stage gone through
	above map[string]api.Stage
	stmts int // their numbers go through the whole program
}

func (c *checker) stage(s api.Stage, at int) api.Fault {
	c.names = newNames()
	params := paramVars(s)
	if _, is := c.above[s.Name]; is || c.repeats(params...) {
		return api.Fault{Code: api.ErrTwice, At: at}
	}
	if f := c.block(s.Body, params...); f.Code != 0 {
		return f
	}
	if len(c.vars) > api.MaxVars {
		return api.Fault{Code: api.ErrMany, At: at}
	}
	c.above[s.Name] = s
	return api.Fault{}
}

func paramVars(s api.Stage) []api.Var {
	var vars []api.Var
	for _, param := range s.Params {
		vars = append(vars, api.Var{Name: param.Name, T: param.T})
	}
	return vars
}

// block binds what is known in this block alone, from its beginning on.
func (c *checker) block(body []api.Stmt, vars ...api.Var) api.Fault {
	defer c.open()()
	c.bind(vars...)
	for _, s := range body {
		if f := c.stmt(s); f.Code != 0 {
			return f
		}
	}
	return api.Fault{}
}

func (c *checker) stmt(s api.Stmt) api.Fault {
	vars := c.binds(s)
	if code := c.stmtCode(s, vars); code != 0 {
		return api.Fault{Code: code, At: c.stmts}
	}
	c.stmts++
	if s.Do != api.DoTake && s.Do != api.DoFor {
		c.bind(vars...)
		vars = nil
	}
	if f := c.block(s.Body, vars...); f.Code != 0 {
		return f
	}
	return c.block(s.Else)
}

// binds tells what a statement binds; of an end that is not right, types come
// out of which nothing is asked.
func (c *checker) binds(s api.Stmt) []api.Var {
	switch s.Do {
	case api.DoLet:
		return []api.Var{{Name: s.A, T: "i"}}
	case api.DoChan:
		return []api.Var{{Name: s.A, T: "s" + s.T}, {Name: s.B, T: "r" + s.T}}
	case api.DoClone:
		return []api.Var{{Name: s.A, T: c.typeOf(s.B)}}
	case api.DoTake, api.DoFor:
		return []api.Var{{Name: s.A, T: strings.TrimPrefix(c.typeOf(s.B), "r")}}
	}
	return nil
}

func (c *checker) stmtCode(s api.Stmt, vars []api.Var) int {
	if c.repeats(vars...) {
		return api.ErrTwice
	}
	if code := c.usedCode(s); code != 0 {
		return code
	}
	types, code := c.wanted(s)
	if code != 0 {
		return code
	}
	for i, x := range s.E {
		if code := c.exprCode(x, types[i]); code != 0 {
			return code
		}
	}
	switch {
	case s.Do != api.DoChan:
		return 0
	case s.N < 1 || s.N > api.MaxSlots:
		return api.ErrRange
	case !render.Type(s.T, api.MaxEnds-1):
		return api.ErrType
	}
	return 0
}

// usedCode looks at the name that a statement uses in its own right: an end,
// or what is set.
func (c *checker) usedCode(s api.Stmt) int {
	begins := func(with string) func(t string) bool {
		return func(t string) bool { return strings.HasPrefix(t, with) }
	}
	switch s.Do {
	case api.DoClone:
		return c.code(s.B, begins("s"))
	case api.DoSend, api.DoClose:
		return c.code(s.A, begins("s"))
	case api.DoAbandon, api.DoDrain:
		return c.code(s.A, begins("r"))
	case api.DoTake, api.DoFor:
		return c.code(s.B, begins("r"))
	case api.DoSet:
		return c.code(s.A, begins("i"))
	}
	return 0
}

// wanted tells of which types the expressions must be.
func (c *checker) wanted(s api.Stmt) ([]string, int) {
	switch s.Do {
	case api.DoSend:
		return []string{strings.TrimPrefix(c.typeOf(s.A), "s")}, 0
	case api.DoSpawn:
		return c.wantedBy(s)
	}
	return []string{"i"}, 0
}

func (c *checker) wantedBy(spawn api.Stmt) ([]string, int) {
	stage, is := c.above[spawn.A]
	switch {
	case !is:
		return nil, api.ErrStage
	case len(spawn.E) != len(stage.Params):
		return nil, api.ErrCount
	}
	var types []string
	for _, param := range stage.Params {
		types = append(types, param.T)
	}
	return types, 0
}
