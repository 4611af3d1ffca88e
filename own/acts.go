package own

import "pipewright/api"

// deeds tells what an instruction does to variables of ends.
func deeds(p api.Proc, ins api.Ins) []api.Act {
	switch ins.Op {
	case api.InChan:
		return onEnds(p, bind(ins.A), bind(ins.B))
	case api.InClone, api.InTake:
		return onEnds(p, use(ins.B), bind(ins.A))
	case api.InSend:
		return onEnds(p, use(ins.A))
	case api.InGive:
		return onEnds(p, use(ins.A), drop(ins.B))
	case api.InClose, api.InAbandon, api.InDrain:
		return onEnds(p, drop(ins.A))
	case api.InSpawn:
		return onEnds(p, handed(ins.Args)...)
	case api.InOver:
		return onEnds(p, over(ins.A))
	}
	return nil
}

func use(v int) api.Act  { return api.Act{What: api.ActUse, Var: v} }
func drop(v int) api.Act { return api.Act{What: api.ActDrop, Var: v} }
func bind(v int) api.Act { return api.Act{What: api.ActBind, Var: v} }
func over(v int) api.Act { return api.Act{What: api.ActOver, Var: v} }

// handed tells what a spawn does to what it hands on.
func handed(args []api.Arg) []api.Act {
	var acts []api.Act
	for _, arg := range args {
		if len(arg.E) == 0 {
			acts = append(acts, drop(arg.V))
		}
	}
	return acts
}

// onEnds leaves out acts on what is no variable of an end.
func onEnds(p api.Proc, acts ...api.Act) []api.Act {
	var kept []api.Act
	for _, a := range acts {
		if isEnd(p, a.Var) {
			kept = append(kept, a)
		}
	}
	return kept
}

func isEnd(p api.Proc, v int) bool {
	return v >= 0 && v < len(p.Vars) && len(p.Vars[v].T) > 1
}

// rule tells which rule an act breaks, as things may be ahead of it; 0: none.
func rule(what, state int) int {
	switch what {
	case api.ActUse, api.ActDrop:
		switch state {
		case lacks:
			return api.RuleGone
		case lacks | has:
			return api.RuleMaybe
		}
	case api.ActBind:
		if state&has != 0 {
			return api.RuleKept
		}
	case api.ActOver:
		if state&has != 0 {
			return api.RuleLeft
		}
	}
	return 0
}
