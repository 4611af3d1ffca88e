package watch

import (
	"math"
	"math/rand"
	"slices"
	"strings"

	"pipewright/api"
)

// edges are numbers at the edges of 64 bits, and of others.
var edges = []int64{math.MinInt64, math.MinInt64 + 1, -1 << 32, -1e9, -7, -1, 0, 1, 2, 6, 7, 1e9, 1 << 31, 1 << 32, math.MaxInt64 - 1, math.MaxInt64}

// writer makes code that may be run, as it is drawn.
type writer struct {
	*rand.Rand
	c     api.Code
	bases []string // what goes through most of its channels
}

func newWriter(seed int64) *writer { return &writer{Rand: rand.New(rand.NewSource(seed))} }

func pick[T any](w *writer, all []T) T { return all[w.Intn(len(all))] }

// vars are such as fit one another: the ends of some channels, more than once,
// and what goes through them.
func (w *writer) vars() []api.Var {
	var all []api.Var
	add := func(types ...string) {
		for _, t := range types {
			all = append(all, api.Var{T: t})
		}
	}
	for range 1 + w.Intn(2) {
		of := pick(w, w.bases)
		add("s"+of, "r"+of, of)
		if w.Intn(2) == 0 {
			add("s"+of, "r"+of, of)
		}
		if len(of) > 1 {
			add("s"+of[1:], "r"+of[1:])
		}
	}
	w.Shuffle(len(all), func(i, k int) { all[i], all[k] = all[k], all[i] })
	return all
}

// some is the number of a variable of a type, or -1.
func (w *writer) some(p api.Proc, of string) int {
	for _, v := range w.Perm(len(p.Vars)) {
		if p.Vars[v].T == of {
			return v
		}
	}
	return -1
}

func (w *writer) number() int64 {
	if w.Intn(4) == 0 {
		return pick(w, edges)
	}
	return w.Int63n(12) - 3
}

// expr has some steps, of numbers and of the Proc's variables.
func (w *writer) expr(p api.Proc, deep int) []api.Push {
	if v := w.some(p, "i"); v >= 0 && w.Intn(2) == 0 {
		return []api.Push{{Op: api.PushVar, N: int64(v)}}
	}
	if deep == 0 || w.Intn(2) == 0 {
		return []api.Push{{Op: api.PushNum, N: w.number()}}
	}
	op := api.PushNeg + w.Intn(6)
	steps := w.expr(p, deep-1)
	if op != api.PushNeg {
		steps = append(steps, w.expr(p, deep-1)...)
	}
	return append(steps, api.Push{Op: op, N: w.number()})
}

// junk is an instruction with anything in all its fields but the Op.
func (w *writer) junk() api.Ins {
	anything := func() int {
		return pick(w, []int{math.MinInt, -1, 0, 1, 2, 3, 1 << 40, math.MaxInt})
	}
	return api.Ins{
		Op: 1 + w.Intn(17), A: anything(), B: anything(), N: anything(), To: anything(), At: w.Intn(2000) - 9,
		T: pick(w, []string{"", "i", "x", "ssssi"}),
		E: []api.Push{{Op: anything(), N: w.number()}, {Op: api.PushAdd}}[:w.Intn(3)], Args: []api.Arg{{V: anything()}, {}}[:w.Intn(3)],
	}
}

// ins makes one instruction, if there is such a one; at most so many are there.
func (w *writer) ins(p api.Proc, op, most int) (api.Ins, bool) {
	ins := w.junk()
	ins.Op = op
	v, to := w.Intn(len(p.Vars)), w.Intn(most)
	if op != api.InJump && w.Intn(3) > 0 { // mostly on, so that it comes to the end, too
		to = min(most-1, len(p.Ins)+1+w.Intn(4))
	}
	of := p.Vars[v].T
	switch op {
	case api.InLet, api.InTurns:
		ins.A, ins.E = v, w.expr(p, 3)
		return ins, of == "i"
	case api.InEmit:
		ins.E = w.expr(p, 3)
	case api.InChan:
		ins.A, ins.T, ins.N = v, strings.TrimPrefix(of, "s"), 1+w.Intn(api.MaxSlots)/2
		ins.B = w.some(p, "r"+ins.T)
		return ins, of[0] == 's' && ins.B >= 0
	case api.InClone:
		ins.A, ins.B = v, w.some(p, of)
		return ins, of[0] == 's' && ins.B != v
	case api.InSend:
		ins.A, ins.E = v, w.expr(p, 3)
		return ins, of == "si"
	case api.InGive:
		ins.A, ins.B = w.some(p, "s"+of), v
		return ins, of != "i" && ins.A >= 0
	case api.InClose:
		ins.A = v
		return ins, of[0] == 's'
	case api.InAbandon, api.InDrain:
		ins.A = v
		return ins, of[0] == 'r'
	case api.InSpawn:
		return w.spawn(p, ins)
	case api.InTake:
		ins.A, ins.B, ins.To = v, w.some(p, "r"+of), to
		return ins, ins.B >= 0
	case api.InCount:
		ins.A, ins.To = v, to
		return ins, of == "i"
	case api.InIf:
		ins.E, ins.To = w.expr(p, 3), to
	case api.InJump:
		ins.To = to
	case api.InOver:
		ins.A = v
		return ins, of != "i"
	}
	return ins, true
}

func (w *writer) spawn(p api.Proc, ins api.Ins) (api.Ins, bool) {
	ins.Args = nil
	if len(w.c.Procs) == 0 {
		return ins, false
	}
	ins.A = w.Intn(len(w.c.Procs))
	stage := w.c.Procs[ins.A]
	for _, param := range stage.Vars[:stage.Params] {
		arg := api.Arg{V: w.some(p, param.T)}
		if param.T == "i" {
			arg = api.Arg{E: w.expr(p, 3), V: w.Intn(len(p.Vars)+2) - 1}
		} else if arg.V < 0 {
			return ins, false
		}
		ins.Args = append(ins.Args, arg)
	}
	return ins, true
}

// busy are the Ops, those more often that bring ends about.
func busy() []int {
	var all []int
	for op, often := range [...]int{
		api.InLet: 2, api.InEmit: 2, api.InChan: 5, api.InClone: 3, api.InSend: 8, api.InGive: 8, api.InClose: 2, api.InAbandon: 2, api.InDrain: 4,
		api.InSpawn: 6, api.InTake: 6, api.InTurns: 2, api.InCount: 2, api.InIf: 1, api.InJump: 1, api.InOver: 1, api.InExit: 1,
	} {
		all = append(all, slices.Repeat([]int{op}, often)...)
	}
	return all
}

// proc has at least one variable. Main's first one is its parameter.
func (w *writer) proc(main bool, most int) api.Proc {
	p := api.Proc{Vars: w.vars(), Params: w.Intn(4), Blocks: []api.Block{{Kind: api.BlockBody}}}
	if main {
		p.Vars, p.Params = append([]api.Var{{T: "ri"}}, p.Vars...), 1
	}
	ops := busy()
	for len(p.Ins) < most-1 {
		op := pick(w, ops)
		if len(p.Ins) < 6 && w.Intn(4) > 0 {
			op = api.InChan
		}
		if ins, is := w.ins(p, op, most); is {
			ins.Block, ins.Loop = 0, 0
			p.Ins = append(p.Ins, ins)
		}
	}
	last, _ := w.ins(p, pick(w, []int{api.InExit, api.InJump}), most)
	p.Ins = append(p.Ins, last)
	return p
}

// code has some stages, Main not always the last one, of at most so many
// instructions.
func (w *writer) code(most int) api.Code {
	w.c, w.bases = api.Code{}, nil
	for range 1 + w.Intn(3) {
		w.bases = append(w.bases, pick(w, strings.Fields("i i i si ri ssi sri rsi rri")))
	}
	n := 1 + w.Intn(5)
	main := max(w.Intn(n), w.Intn(n))
	for k := range n {
		p := w.proc(k == main, 1+w.Intn(most))
		w.c.Procs = append(w.c.Procs, p)
	}
	w.c.Main = main
	return w.c
}

func (w *writer) inputs() []int64 {
	var in []int64
	for range w.Intn(6) {
		in = append(in, w.number())
	}
	return in
}

// picks are so many, small ones and such as are at the edges.
func (w *writer) picks(n int) []int {
	var all []int
	for range n {
		switch w.Intn(4) {
		case 0:
			all = append(all, pick(w, wildPicks))
		case 1:
			all = append(all, int(w.Uint64()))
		default:
			all = append(all, w.Intn(20))
		}
	}
	return all
}
