package syntax

import "pipewright/api"

func (r *reader) program() api.Program {
	stages := []api.Stage{r.stage()}
	for !r.over() {
		if len(stages) == api.MaxStages && r.sees("stage") {
			panic(r.fault(api.ErrMany))
		}
		stages = append(stages, r.stage())
	}
	return api.Program{Stages: stages}
}

func (r *reader) stage() api.Stage {
	stage := api.Stage{At: r.at()}
	r.skip("stage")
	stage.Name = r.name()
	r.bracketed(func() {
		name := r.name()
		stage.Params = append(stage.Params, api.Param{Name: name, T: r.typeText()})
	})
	stage.Body = r.block()
	return stage
}

// bracketed reads things parted by commas, one by one. One too many is told
// ahead of what it is: even nothing at all is too much behind such a comma.
func (r *reader) bracketed(one func()) {
	r.skip("(")
	if !r.sees(")") {
		one()
		for count := 1; r.sees(","); count++ {
			r.skip(",")
			if count == api.MaxParams {
				panic(r.fault(api.ErrMany))
			}
			one()
		}
	}
	r.skip(")")
}

func (r *reader) typeText() string {
	text := ""
	for r.sees("send") || r.sees("recv") {
		if len(text) == api.MaxEnds {
			panic(r.fault(api.ErrDeep))
		}
		text += r.text()[:1]
		r.next++
	}
	r.skip("int")
	return text + "i"
}

func (r *reader) block() []api.Stmt {
	if r.sees("{") && r.depth == api.MaxDepth {
		panic(r.fault(api.ErrDeep))
	}
	r.skip("{")
	r.depth++
	var block []api.Stmt
	for !r.sees("}") {
		block = append(block, r.stmt())
	}
	r.skip("}")
	r.depth--
	return block
}

func (r *reader) stmt() api.Stmt {
	s := api.Stmt{Do: doOf(r.text()), At: r.at()}
	if s.Do == 0 {
		panic(r.unfit())
	}
	if r.stmts == api.MaxStmts {
		panic(r.fault(api.ErrMany))
	}
	r.stmts++
	r.next++
	switch s.Do {
	case api.DoTake, api.DoFor, api.DoRepeat, api.DoIf:
		r.nesting(&s)
	default:
		r.plain(&s)
		r.skip(";")
	}
	return s
}

// doOf is 0 where no statement begins.
func doOf(word string) int {
	switch word {
	case "let":
		return api.DoLet
	case "set":
		return api.DoSet
	case "emit":
		return api.DoEmit
	case "chan":
		return api.DoChan
	case "clone":
		return api.DoClone
	case "send":
		return api.DoSend
	case "close":
		return api.DoClose
	case "abandon":
		return api.DoAbandon
	case "drain":
		return api.DoDrain
	case "spawn":
		return api.DoSpawn
	case "take":
		return api.DoTake
	case "for":
		return api.DoFor
	case "repeat":
		return api.DoRepeat
	case "if":
		return api.DoIf
	}
	return 0
}

// plain reads what stands between a statement's word and its semicolon.
func (r *reader) plain(s *api.Stmt) {
	if s.Do != api.DoEmit {
		s.A = r.name()
	}
	switch s.Do {
	case api.DoLet, api.DoSet:
		r.skip("=")
		s.E = r.exprs()
	case api.DoEmit, api.DoSend:
		s.E = r.exprs()
	case api.DoChan:
		s.B = r.name()
		s.T = r.typeText()
		s.N = int(r.number())
	case api.DoClone:
		s.B = r.name()
	case api.DoSpawn:
		r.bracketed(func() {
			s.E = append(s.E, r.expr())
		})
	}
}

// nesting reads what stands behind the word of a statement that has blocks.
func (r *reader) nesting(s *api.Stmt) {
	switch s.Do {
	case api.DoTake, api.DoFor:
		s.A = r.name()
		r.skip("from")
		s.B = r.name()
	default:
		s.E = r.exprs()
	}
	s.Body = r.block()
	if (s.Do == api.DoTake || s.Do == api.DoIf) && r.sees("else") {
		r.skip("else")
		s.Else = r.block()
	}
}

// exprs reads one expression, as the list that a statement has of them.
func (r *reader) exprs() []api.Expr {
	return []api.Expr{r.expr()}
}
