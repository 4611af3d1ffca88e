package world

import (
	"slices"

	"pipewright/api"
)

// stage is what tasks need of a Proc, in memory of its own: the code that was
// handed in may change as the world goes on.
type stage struct {
	vars int
	ins  []api.Ins
}

func stagesOf(procs []api.Proc) []stage {
	var list []stage
	for _, p := range procs {
		s := stage{vars: len(p.Vars)}
		for _, ins := range p.Ins {
			s.ins = append(s.ins, kept(ins))
		}
		list = append(list, s)
	}
	return list
}

// kept has the lists that the instruction's Op asks for alone: what lies in the
// others nobody checked.
func kept(ins api.Ins) api.Ins {
	own := api.Ins{Op: ins.Op, A: ins.A, B: ins.B, N: ins.N, To: ins.To, At: ins.At}
	switch ins.Op {
	case api.InLet, api.InTurns, api.InEmit, api.InSend, api.InIf:
		own.E = slices.Clone(ins.E)
	case api.InSpawn:
		for _, arg := range ins.Args {
			own.Args = append(own.Args, api.Arg{E: slices.Clone(arg.E), V: arg.V})
		}
	}
	return own
}
