package mean

import (
	"fmt"
	"math"
	"math/rand"
	"slices"

	"pipewright/api"
)

// edges are numbers at the edges of 64 bits, and of others.
var edges = in(least, least+1, least/2, -1<<32-1, -1<<32, -1<<31, -1e9, -7, -6, -2, -1, 0, 1, 2, 3, 4, 5, 6, 7, 1e9, 1<<31, 1<<32, 1<<32+1, greatest/2, greatest-1, greatest)

// kinds of statements, those that ends go through more often.
var kindsDrawn = []int{
	api.DoLet, api.DoSet, api.DoEmit, api.DoChan, api.DoChan, api.DoClone, api.DoClone, api.DoSend, api.DoSend, api.DoSend, api.DoSend, api.DoSend, api.DoSend,
	api.DoClose, api.DoAbandon, api.DoDrain, api.DoSpawn, api.DoSpawn, api.DoSpawn, api.DoSpawn,
	api.DoTake, api.DoTake, api.DoFor, api.DoFor, api.DoRepeat, api.DoIf,
}

// author makes programs that are right by their names and types alone, as they
// are drawn: ends are used as it comes.
type author struct {
	*rand.Rand
	stages []api.Stage
	named  int
	left   int // how many statements the stage may still have
}

// bound is a name that is known, and its type.
type bound struct{ name, of string }

func newAuthor(seed int64) *author { return &author{Rand: rand.New(rand.NewSource(seed))} }

func pick[T any](a *author, all []T) T { return all[a.Intn(len(all))] }

func (a *author) name() string {
	a.named++
	return fmt.Sprint("n", a.named)
}

// some is a name whose type is so; often the last one.
func (a *author) some(k []bound, is func(of string) bool) (bound, bool) {
	if n := len(k) - 1; n >= 0 && a.Intn(3) == 0 && is(k[n].of) {
		return k[n], true
	}
	for _, at := range a.Perm(len(k)) {
		if is(k[at].of) {
			return k[at], true
		}
	}
	return bound{}, false
}

func sends(of string) bool { return of[0] == 's' }

func receives(of string) bool { return of[0] == 'r' }

func isOf(t string) func(of string) bool { return func(of string) bool { return of == t } }

func (a *author) number() int64 {
	if a.Intn(4) == 0 {
		return pick(a, edges)
	}
	return a.Int63n(12) - 3
}

// numeral is a number that may stand in a program.
func (a *author) numeral() int64 {
	if a.Intn(6) == 0 {
		return pick(a, in(0, 1, 7, 1<<31, 1<<32, 1<<62/5, 1e18-1))
	}
	return a.Int63n(8)
}

func (a *author) expr(k []bound, deep int) api.Expr {
	if x, is := a.some(k, isOf("i")); is && a.Intn(2) == 0 {
		return api.Expr{Op: api.OpName, Name: x.name}
	}
	if deep == 0 || a.Intn(2) == 0 {
		return api.Expr{Op: api.OpNum, N: a.numeral()}
	}
	op := api.OpNeg + a.Intn(6)
	parts := []api.Expr{a.expr(k, deep-1), a.expr(k, deep-1)}
	if op == api.OpNeg {
		parts = parts[:1]
	}
	return api.Expr{Op: op, L: parts}
}

func (a *author) numberE(k []bound) []api.Expr { return []api.Expr{a.expr(k, 3)} }

// thing is an E of a type, if there is one.
func (a *author) thing(k []bound, of string) (api.Expr, bool) {
	if of == "i" {
		return a.expr(k, 3), true
	}
	x, is := a.some(k, isOf(of))
	return api.Expr{Op: api.OpName, Name: x.name}, is
}

// block has some statements, or none.
func (a *author) block(k []bound, deep int) []api.Stmt {
	k = slices.Clone(k)
	var list []api.Stmt
	for range a.Intn(7 - deep/2) {
		if a.left == 0 {
			break
		}
		s, binds, ok := a.stmt(k, pick(a, kindsDrawn), deep)
		if !ok {
			continue
		}
		a.left--
		if s.Do == api.DoClone && a.Intn(2) == 0 { // so that it goes wrong
			list = append(list, api.Stmt{Do: api.DoClose, A: s.B})
		}
		s.At = a.Intn(3000) - 500
		list, k = append(list, s), append(k, binds...)
	}
	return list
}

// stmt makes a statement of a kind, if there can be one; and tells what it binds
// for those behind it.
func (a *author) stmt(k []bound, do, deep int) (s api.Stmt, binds []bound, ok bool) {
	s.Do = do
	number, isNumber := a.some(k, isOf("i"))
	sending, isSending := a.some(k, sends)
	receiving, isReceiving := a.some(k, receives)
	switch do {
	case api.DoLet:
		s.A, s.E = a.name(), a.numberE(k)
		return s, []bound{{s.A, "i"}}, a.named < 28
	case api.DoSet:
		s.A, s.E = number.name, a.numberE(k)
		return s, nil, isNumber
	case api.DoEmit:
		s.E = a.numberE(k)
		return s, nil, true
	case api.DoChan:
		s.A, s.B, s.T, s.N = a.name(), a.name(), pick(a, []string{"i", "i", "i", "si", "ri", "ssi", "sri", "rri", "rsi"}), 1+a.Intn(api.MaxSlots)/2
		return s, []bound{{s.A, "s" + s.T}, {s.B, "r" + s.T}}, a.named < 28
	case api.DoClone:
		s.A, s.B = a.name(), sending.name
		return s, []bound{{s.A, sending.of}}, isSending && a.named < 28
	case api.DoSend:
		if !isSending {
			return s, nil, false
		}
		x, is := a.thing(k, sending.of[1:])
		s.A, s.E = sending.name, []api.Expr{x}
		return s, nil, is
	case api.DoClose:
		s.A = sending.name
		return s, nil, isSending
	case api.DoAbandon, api.DoDrain:
		s.A = receiving.name
		return s, nil, isReceiving
	case api.DoSpawn:
		return a.spawn(k)
	}
	return a.around(k, do, deep, receiving)
}

// around makes a statement that has a Body.
func (a *author) around(k []bound, do, deep int, from bound) (s api.Stmt, binds []bound, ok bool) {
	s.Do = do
	takes := do == api.DoTake || do == api.DoFor
	if deep == api.MaxDepth || deep > 3 && a.Intn(3) > 0 || takes && from.name == "" {
		return s, nil, false
	}
	known := k
	if takes {
		s.A, s.B = a.name(), from.name
		known = append(slices.Clone(k), bound{s.A, from.of[1:]})
	} else {
		s.E = a.numberE(k)
	}
	s.Body = a.block(known, deep+1)
	if do == api.DoTake || do == api.DoIf {
		s.Else = a.block(k, deep+1)
	}
	return s, nil, a.named < 28
}

// spawn hands on what fits, one end more than once, too.
func (a *author) spawn(k []bound) (s api.Stmt, binds []bound, ok bool) {
	s.Do = api.DoSpawn
	if len(a.stages) == 0 {
		return s, nil, false
	}
	stage := pick(a, a.stages)
	s.A = stage.Name
	for _, param := range stage.Params {
		x, is := a.thing(k, param.T)
		if !is {
			return s, nil, false
		}
		s.E = append(s.E, x)
	}
	return s, nil, true
}

// stage takes what the others may hand on.
func (a *author) stage(name string, types ...string) {
	s := api.Stage{Name: name, At: a.Intn(3000) - 500}
	a.named, a.left = 0, 20
	var k []bound
	for _, t := range types {
		x := bound{a.name(), t}
		k = append(k, x)
		s.Params = append(s.Params, api.Param{Name: x.name, T: t})
	}
	for range a.Intn(4) {
		o, binds, _ := a.stmt(k, api.DoChan, 1)
		s.Body, k = append(s.Body, o), append(k, binds...)
	}
	s.Body = append(s.Body, a.block(k, 1)...)
	a.stages = append(a.stages, s)
}

// types are those of a stage's parameters.
func (a *author) types() []string {
	var types []string
	for range a.Intn(4) {
		types = append(types, pick(a, []string{"i", "i", "ri", "ri", "si", "si", "si", "ssi", "sri", "rsi", "rri", "srsi"}))
	}
	return types
}

func (a *author) program() api.Program {
	a.stages = nil
	for n := range a.Intn(4) {
		a.stage(fmt.Sprint("f", n), a.types()...)
	}
	a.stage("main", "ri")
	if a.Intn(8) == 0 {
		a.stage("behind", a.types()...)
	}
	return api.Program{Stages: a.stages}
}

func (a *author) inputs() []int64 {
	var list []int64
	for range a.Intn(6) {
		list = append(list, a.number())
	}
	return list
}

// pickOf is mostly the number of one of so many tasks.
func (a *author) pickOf(tasks int) int {
	if a.Intn(12) == 0 {
		return pick(a, append([]int{tasks, tasks + 1, math.MaxInt32}, noTasks...))
	}
	return a.Intn(tasks)
}
