package lower

import (
	"strings"

	"pipewright/api"
	"pipewright/render"
)

// procStep is how far apart the faults of two Procs are told.
const procStep = 10000

// checker looks at a Proc as it comes. Those above it have been found right.
type checker struct {
	api.Proc
	above []api.Proc
}

func (c checker) fault() api.Fault {
	if code := c.frameCode(); code != 0 {
		return api.Fault{Code: code, At: -1}
	}
	for i, ins := range c.Ins {
		if !c.isBlock(ins.Block) || !c.isBlock(ins.Loop) || !c.fits(ins) {
			return api.Fault{Code: api.ErrCode, At: i}
		}
	}
	if last := c.Ins[len(c.Ins)-1].Op; last != api.InExit && last != api.InJump {
		return api.Fault{Code: api.ErrCode, At: len(c.Ins)}
	}
	return api.Fault{}
}

// frameCode looks at all but the instructions themselves.
func (c checker) frameCode() int {
	for _, v := range c.Vars {
		if !render.Type(v.T, api.MaxEnds) {
			return api.ErrType
		}
	}
	switch {
	case c.Params < 0 || c.Params > len(c.Vars):
		return api.ErrCount
	case len(c.Ins) == 0:
		return api.ErrNone
	case len(c.Ins) > api.MaxIns || len(c.Vars) > 2*api.MaxIns || len(c.Blocks) > api.MaxIns:
		return api.ErrMany
	}
	for i, b := range c.Blocks {
		if !c.blockFits(b, i) {
			return api.ErrForm
		}
	}
	return 0
}

func (c checker) blockFits(b api.Block, number int) bool {
	if b.N < 0 || b.N > api.MaxTurns {
		return false
	}
	if number == 0 {
		return b.Kind == api.BlockBody
	}
	if b.Parent < 0 || b.Parent >= number {
		return false
	}
	switch b.Kind {
	case api.BlockFor:
		return receives(c.typeOf(b.A))
	case api.BlockThen, api.BlockElse, api.BlockRepeat:
		return true
	}
	return false
}

// fits looks at what an instruction names, by its Op. As each variable's type is
// one of at most MaxEnds ends, what stands behind the first end of one is a type
// of one end less; and the two ends of a channel are two by their types.
func (c checker) fits(ins api.Ins) bool {
	a, b := c.typeOf(ins.A), c.typeOf(ins.B)
	switch ins.Op {
	case api.InLet, api.InTurns:
		return a == "i" && c.isNumber(ins.E)
	case api.InEmit:
		return c.isNumber(ins.E)
	case api.InChan:
		slots := ins.N >= 1 && ins.N <= api.MaxSlots
		return slots && a == "s"+ins.T && b == "r"+ins.T
	case api.InClone:
		return ins.A != ins.B && a == b && sends(b)
	case api.InSend:
		return a == "si" && c.isNumber(ins.E)
	case api.InGive:
		return isEnd(b) && a == "s"+b
	case api.InClose:
		return sends(a)
	case api.InAbandon, api.InDrain:
		return receives(a)
	case api.InSpawn:
		return c.spawnFits(ins)
	case api.InTake:
		return b == "r"+a && c.isIns(ins.To)
	case api.InCount:
		return a == "i" && c.isIns(ins.To)
	case api.InIf:
		return c.isNumber(ins.E) && c.isIns(ins.To)
	case api.InJump:
		return c.isIns(ins.To)
	case api.InOver:
		return isEnd(a)
	}
	return ins.Op == api.InExit
}

func (c checker) spawnFits(ins api.Ins) bool {
	if ins.A < 0 || ins.A >= len(c.above) {
		return false
	}
	stage := c.above[ins.A]
	if len(ins.Args) != stage.Params {
		return false
	}
	for i, arg := range ins.Args {
		if !c.argFits(arg, stage.Vars[i].T) {
			return false
		}
	}
	return true
}

func (c checker) argFits(arg api.Arg, t string) bool {
	if t == "i" {
		return c.isNumber(arg.E)
	}
	return len(arg.E) == 0 && c.typeOf(arg.V) == t
}

// isNumber asks whether the steps leave one number.
func (c checker) isNumber(steps []api.Push) bool {
	have := 0
	for _, step := range steps {
		takes := 0
		switch step.Op {
		case api.PushNum:
		case api.PushVar:
			if c.typeOf(int(step.N)) != "i" {
				return false
			}
		case api.PushNeg:
			takes = 1
		case api.PushAdd, api.PushSub, api.PushMul, api.PushLess, api.PushEq:
			takes = 2
		default:
			return false
		}
		if have < takes {
			return false
		}
		have += 1 - takes
	}
	return have == 1
}

func (c checker) isBlock(number int) bool { return number >= 0 && number < len(c.Blocks) }

func (c checker) isIns(number int) bool { return number >= 0 && number < len(c.Ins) }

// typeOf is empty for what is no variable, and no type is.
func (c checker) typeOf(number int) string {
	if number < 0 || number >= len(c.Vars) {
		return ""
	}
	return c.Vars[number].T
}

func isEnd(t string) bool { return sends(t) || receives(t) }

func sends(t string) bool { return strings.HasPrefix(t, "s") }

func receives(t string) bool { return strings.HasPrefix(t, "r") }
