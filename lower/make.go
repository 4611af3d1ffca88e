package lower

import (
	"slices"
	"strings"

	"pipewright/api"
)

// maker makes the Proc that it embeds out of a stage that is right: what is
// named there is there.
type maker struct {
	api.Proc
	above []api.Proc
	block int // the one that is being made
	at    int // the place of the statement that is being made, or of the stage
}

// made keeps vars, which must be new.
func made(s api.Stage, vars []api.Var, above []api.Proc) api.Proc {
	proc := api.Proc{Name: strings.Clone(s.Name), Vars: vars, Params: len(s.Params)}
	m := maker{Proc: proc, above: above, at: s.At}
	m.within(api.Block{Kind: api.BlockBody}, s.Body, func() {
		for _, param := range s.Params {
			m.over(param.Name)
		}
		m.put(api.Ins{Op: api.InExit})
	})
	return m.Proc
}

// put tells the number of the instruction, for those that lead to it.
func (m *maker) put(ins api.Ins) int {
	ins.Block, ins.At = m.block, m.at
	m.Ins = append(m.Ins, ins)
	return len(m.Ins) - 1
}

// within makes a block; end makes what stands last in it.
func (m *maker) within(b api.Block, body []api.Stmt, end func()) {
	around, at := m.block, m.at
	b.Parent, m.block = around, len(m.Blocks)
	m.Blocks = append(m.Blocks, b)
	for _, s := range body {
		m.at = s.At
		m.stmt(s)
	}
	m.at = at
	for _, s := range body {
		m.over(bound(s)...)
	}
	end()
	m.block = around
}

// bound are the ends that are known behind a statement. What a take or a for
// binds is not: it is over with their Body.
func bound(s api.Stmt) []string {
	switch s.Do {
	case api.DoClone:
		return []string{s.A}
	case api.DoChan:
		return []string{s.A, s.B}
	}
	return nil
}

// over passes by the names of numbers.
func (m *maker) over(names ...string) {
	for _, name := range names {
		if v := m.number(name); isEnd(m.Vars[v].T) {
			m.put(api.Ins{Op: api.InOver, A: v})
		}
	}
}

func (m *maker) stmt(s api.Stmt) {
	switch s.Do {
	case api.DoLet, api.DoSet:
		m.put(api.Ins{Op: api.InLet, A: m.number(s.A), E: m.steps(s.E...)})
	case api.DoEmit:
		m.put(api.Ins{Op: api.InEmit, E: m.steps(s.E...)})
	case api.DoChan:
		m.put(api.Ins{Op: api.InChan, A: m.number(s.A), B: m.number(s.B), N: s.N, T: strings.Clone(s.T)})
	case api.DoClone:
		m.put(api.Ins{Op: api.InClone, A: m.number(s.A), B: m.number(s.B)})
	case api.DoSend:
		m.send(m.number(s.A), s.E[0])
	case api.DoClose:
		m.put(api.Ins{Op: api.InClose, A: m.number(s.A)})
	case api.DoAbandon:
		m.put(api.Ins{Op: api.InAbandon, A: m.number(s.A)})
	case api.DoDrain:
		m.put(api.Ins{Op: api.InDrain, A: m.number(s.A)})
	case api.DoSpawn:
		m.spawn(s)
	case api.DoTake:
		m.either(api.Ins{Op: api.InTake, A: m.number(s.A), B: m.number(s.B)}, s, s.A)
	case api.DoFor:
		from := m.number(s.B)
		m.loop(api.Ins{Op: api.InTake, A: m.number(s.A), B: from}, api.Block{Kind: api.BlockFor, A: from}, s.Body, s.A)
	case api.DoRepeat:
		m.repeat(s)
	case api.DoIf:
		m.either(api.Ins{Op: api.InIf, E: m.steps(s.E...)}, s)
	}
}

func (m *maker) send(through int, x api.Expr) {
	if m.Vars[through].T == "si" {
		m.put(api.Ins{Op: api.InSend, A: through, E: m.steps(x)})
		return
	}
	m.put(api.Ins{Op: api.InGive, A: through, B: m.number(x.Name)})
}

func (m *maker) spawn(s api.Stmt) {
	stage := slices.IndexFunc(m.above, func(p api.Proc) bool { return p.Name == s.A })
	var args []api.Arg
	for i, x := range s.E {
		if isEnd(m.above[stage].Vars[i].T) {
			args = append(args, api.Arg{V: m.number(x.Name)})
		} else {
			args = append(args, api.Arg{E: m.steps(x)})
		}
	}
	m.put(api.Ins{Op: api.InSpawn, A: stage, Args: args})
}

// repeat counts in a variable of its own, behind those that have names.
func (m *maker) repeat(s api.Stmt) {
	turns := len(m.Vars)
	m.Vars = append(m.Vars, api.Var{T: "i"})
	m.put(api.Ins{Op: api.InTurns, A: turns, E: m.steps(s.E...)})
	m.loop(api.Ins{Op: api.InCount, A: turns}, api.Block{Kind: api.BlockRepeat, N: most(s.E[0])}, s.Body)
}

// most is how often a repeat of x goes round at most, as far as x shows it.
func most(x api.Expr) int {
	if x.Op == api.OpNum {
		return int(min(x.N, api.MaxTurns))
	}
	return api.MaxTurns
}

// loop makes a Body that leads back to its head; the names are over with each
// turn.
func (m *maker) loop(head api.Ins, b api.Block, body []api.Stmt, names ...string) {
	head.Loop = len(m.Blocks)
	first := m.put(head)
	m.within(b, body, func() {
		m.over(names...)
		m.put(api.Ins{Op: api.InJump, To: first})
	})
	m.Ins[first].To = len(m.Ins)
}

// either makes a Body and an Else; the names are over with the Body.
func (m *maker) either(head api.Ins, s api.Stmt, names ...string) {
	first := m.put(head)
	var jump int
	m.within(api.Block{Kind: api.BlockThen}, s.Body, func() {
		m.over(names...)
		jump = m.put(api.Ins{Op: api.InJump})
	})
	m.Ins[first].To = len(m.Ins)
	m.within(api.Block{Kind: api.BlockElse}, s.Else, func() {})
	m.Ins[jump].To = len(m.Ins)
}

// number needs no blocks: a name is bound but once in a stage.
func (m *maker) number(name string) int {
	return slices.IndexFunc(m.Vars, func(v api.Var) bool { return v.Name == name })
}

func (m *maker) steps(all ...api.Expr) []api.Push {
	var steps []api.Push
	for _, x := range all {
		steps = append(append(steps, m.steps(x.L...)...), m.step(x))
	}
	return steps
}

// step leans on the numbers of Ops and of steps being the same.
func (m *maker) step(x api.Expr) api.Push {
	if x.Op == api.OpName {
		return api.Push{Op: x.Op, N: int64(m.number(x.Name))}
	}
	return api.Push{Op: x.Op, N: x.N}
}
