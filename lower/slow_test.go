package lower

import (
	"fmt"
	"slices"
	"strings"

	"pipewright/api"
	"pipewright/kinds"
)

// The second way to code: a list of lines, each with names in the stead of
// numbers (of variables, of blocks by their paths, of places to go to by
// labels); the numbers are looked up when all lines are there.
type line struct {
	label       string // a place alone, if it is not empty
	ins         api.Ins
	a, b        string // variables
	to          string // a label
	block, loop string // paths
	e           []api.Expr
	args        []api.Expr
	binds       []string // known behind it, in its block
}

type slowProc struct {
	lines  []line
	blocks []string // paths, in the order in which they begin
	made   map[string]api.Block
	fors   map[string]string // what each block of a for takes from
	turns  []string          // paths of repeats
	types  map[string]string
}

func slowLower(p api.Program) (api.Code, api.Fault) {
	if f := kinds.Check(p); f.Code != 0 {
		return api.Code{}, f
	}
	c := api.Code{Main: slices.IndexFunc(p.Stages, func(s api.Stage) bool { return s.Name == "main" })}
	for i, s := range p.Stages {
		c.Procs = append(c.Procs, slowStage(s, p.Stages[:i]))
	}
	return c, api.Fault{}
}

func slowStage(s api.Stage, above []api.Stage) api.Proc {
	sp := &slowProc{made: map[string]api.Block{}, fors: map[string]string{}, types: map[string]string{}}
	proc := api.Proc{Name: s.Name, Params: len(s.Params)}
	for _, param := range s.Params {
		sp.types[param.Name] = param.T
		proc.Vars = append(proc.Vars, api.Var{Name: param.Name, T: param.T})
	}
	var named []string
	sp.slowBlock("/", s.Body, &named)
	sp.made["/"] = api.Block{Kind: api.BlockBody}
	sp.slowOvers("/", s.At)
	for _, param := range s.Params {
		sp.slowOver("/", s.At, param.Name)
	}
	sp.lines = append(sp.lines, line{ins: api.Ins{Op: api.InExit, At: s.At}, block: "/"})
	for _, name := range named {
		proc.Vars = append(proc.Vars, api.Var{Name: name, T: sp.types[name]})
	}
	for range sp.turns {
		proc.Vars = append(proc.Vars, api.Var{T: "i"})
	}
	sp.resolve(&proc, above)
	return proc
}

// slowBlock puts the statements' lines; their paths go on from the block's.
func (sp *slowProc) slowBlock(path string, body []api.Stmt, named *[]string) {
	sp.blocks = append(sp.blocks, path)
	for i, s := range body {
		sp.slowStmt(fmt.Sprint(path, i), path, s, named)
	}
}

func (sp *slowProc) slowStmt(path, block string, s api.Stmt, named *[]string) {
	bind := func(name, t string) {
		sp.types[name] = t
		*named = append(*named, name)
	}
	put := func(l line) {
		l.block, l.ins.At = block, s.At
		sp.lines = append(sp.lines, l)
	}
	plain := map[int]int{api.DoLet: api.InLet, api.DoSet: api.InLet, api.DoEmit: api.InEmit, api.DoClose: api.InClose, api.DoAbandon: api.InAbandon, api.DoDrain: api.InDrain}
	switch s.Do {
	case api.DoChan:
		bind(s.A, "s"+s.T)
		bind(s.B, "r"+s.T)
		put(line{ins: api.Ins{Op: api.InChan, N: s.N, T: s.T}, a: s.A, b: s.B, binds: []string{s.A, s.B}})
	case api.DoClone:
		bind(s.A, sp.types[s.B])
		put(line{ins: api.Ins{Op: api.InClone}, a: s.A, b: s.B, binds: []string{s.A}})
	case api.DoSend:
		if sp.types[s.A] == "si" {
			put(line{ins: api.Ins{Op: api.InSend}, a: s.A, e: s.E})
		} else {
			put(line{ins: api.Ins{Op: api.InGive}, a: s.A, b: s.E[0].Name})
		}
	case api.DoSpawn:
		put(line{ins: api.Ins{Op: api.InSpawn, T: s.A}, args: s.E})
	case api.DoTake, api.DoFor:
		bind(s.A, sp.types[s.B][1:])
		l := line{ins: api.Ins{Op: api.InTake}, a: s.A, b: s.B, to: path + "else"}
		if s.Do == api.DoFor {
			l.loop, l.to = path+"body/", path+"end"
			sp.fors[path+"body/"] = s.B
		}
		put(line{label: path + "head"})
		put(l)
		sp.slowParts(path, block, s, named)
	case api.DoRepeat:
		sp.turns = append(sp.turns, path)
		put(line{ins: api.Ins{Op: api.InTurns}, a: path, e: s.E})
		put(line{label: path + "head"})
		put(line{ins: api.Ins{Op: api.InCount}, a: path, to: path + "end", loop: path + "body/"})
		sp.slowParts(path, block, s, named)
	case api.DoIf:
		put(line{ins: api.Ins{Op: api.InIf}, e: s.E, to: path + "else"})
		sp.slowParts(path, block, s, named)
	default:
		l := line{ins: api.Ins{Op: plain[s.Do]}, a: s.A, e: s.E}
		if s.Do == api.DoLet {
			bind(s.A, "i")
			l.binds = []string{s.A}
		}
		put(l)
	}
}

// slowParts puts the Body, and an Else where there may be one.
func (sp *slowProc) slowParts(path, block string, s api.Stmt, named *[]string) {
	body, other := path+"body/", path+"else/"
	sp.slowBlock(body, s.Body, named)
	sp.slowOvers(body, s.At)
	if s.Do == api.DoTake || s.Do == api.DoFor {
		sp.slowOver(body, s.At, s.A)
	}
	back := map[int]string{api.DoFor: "head", api.DoRepeat: "head", api.DoTake: "end", api.DoIf: "end"}[s.Do]
	sp.lines = append(sp.lines, line{ins: api.Ins{Op: api.InJump, At: s.At}, to: path + back, block: body})
	switch s.Do {
	case api.DoFor:
		sp.made[body] = api.Block{Kind: api.BlockFor}
	case api.DoRepeat:
		sp.made[body] = api.Block{Kind: api.BlockRepeat, N: api.MaxTurns}
		if x := s.E[0]; x.Op == api.OpNum && x.N < api.MaxTurns {
			sp.made[body] = api.Block{Kind: api.BlockRepeat, N: int(x.N)}
		}
	default:
		sp.made[body], sp.made[other] = api.Block{Kind: api.BlockThen}, api.Block{Kind: api.BlockElse}
		sp.lines = append(sp.lines, line{label: path + "else"})
		sp.slowBlock(other, s.Else, named)
		sp.slowOvers(other, s.At)
	}
	sp.lines = append(sp.lines, line{label: path + "end"})
}

// slowOvers looks through all lines for those that stand in the block.
func (sp *slowProc) slowOvers(block string, at int) {
	for _, l := range sp.lines {
		if l.block == block {
			for _, name := range l.binds {
				sp.slowOver(block, at, name)
			}
		}
	}
}

func (sp *slowProc) slowOver(block string, at int, name string) {
	if len(sp.types[name]) > 1 {
		sp.lines = append(sp.lines, line{ins: api.Ins{Op: api.InOver, At: at}, a: name, block: block})
	}
}

func (sp *slowProc) resolve(proc *api.Proc, above []api.Stage) {
	blocks := map[string]int{"": 0}
	for i, path := range sp.blocks {
		blocks[path] = i
	}
	vars := map[string]int{"": 0}
	turns := 0
	for i, v := range proc.Vars {
		if v.Name == "" {
			vars[sp.turns[turns]] = i
			turns++
		} else {
			vars[v.Name] = i
		}
	}
	labels := map[string]int{"": 0}
	n := 0
	for _, l := range sp.lines {
		if l.label != "" {
			labels[l.label] = n
		} else {
			n++
		}
	}
	for _, path := range sp.blocks {
		b := sp.made[path]
		b.A = vars[sp.fors[path]]
		// The path around ends with the last / ahead of the last one.
		if around := strings.LastIndex(strings.TrimSuffix(path, "/"), "/"); around >= 0 {
			b.Parent = blocks[path[:around+1]]
		}
		proc.Blocks = append(proc.Blocks, b)
	}
	for _, l := range sp.lines {
		if l.label != "" {
			continue
		}
		ins := l.ins
		ins.A, ins.B, ins.To = vars[l.a], vars[l.b], labels[l.to]
		ins.Block, ins.Loop = blocks[l.block], blocks[l.loop]
		for _, x := range l.e {
			ins.E = slowSteps(x, vars)
		}
		if ins.Op == api.InSpawn {
			stage := slices.IndexFunc(above, func(s api.Stage) bool { return s.Name == ins.T })
			ins.A, ins.T = stage, ""
			for i, x := range l.args {
				if above[stage].Params[i].T == "i" {
					ins.Args = append(ins.Args, api.Arg{E: slowSteps(x, vars)})
				} else {
					ins.Args = append(ins.Args, api.Arg{V: vars[x.Name]})
				}
			}
		}
		proc.Ins = append(proc.Ins, ins)
	}
}

// slowSteps goes from the end to the front: itself, and then its parts from
// the right.
func slowSteps(x api.Expr, vars map[string]int) []api.Push {
	var out []api.Push
	rest := []api.Expr{x}
	for len(rest) > 0 {
		x, rest = rest[len(rest)-1], rest[:len(rest)-1]
		step := map[int]api.Push{
			api.OpNum: {Op: api.PushNum, N: x.N}, api.OpName: {Op: api.PushVar, N: int64(vars[x.Name])},
			api.OpNeg: {Op: api.PushNeg}, api.OpAdd: {Op: api.PushAdd}, api.OpSub: {Op: api.PushSub},
			api.OpMul: {Op: api.PushMul}, api.OpLess: {Op: api.PushLess}, api.OpEq: {Op: api.PushEq},
		}[x.Op]
		out = append(out, step)
		rest = append(rest, x.L...)
	}
	slices.Reverse(out)
	return out
}
