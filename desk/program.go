package desk

import (
	"pipewright/api"
	"pipewright/bound"
	"pipewright/explain"
	"pipewright/lower"
	"pipewright/order"
	"pipewright/render"
	"pipewright/syntax"
	"pipewright/world"
)

// rules has an empty text ahead, so that a rule is the number of its word.
var rules = [...]string{"", "gone", "maybe", "kept", "left"}

// program is what a text says, as it stands and as code, with what is run of it;
// nil: nothing is.
type program struct {
	api.Program
	api.Code
	run *run
}

// note is one with the Proc that it is of.
type note struct {
	*api.Proc
	api.Note
}

// read answers a program, or a fault at a place of the text.
func read(src string) (*program, api.Fault) {
	p, f := syntax.Parse(src)
	if f.Code != 0 {
		return nil, f
	}
	c, f := lower.Lower(p)
	if f.Code != 0 {
		return nil, api.Fault{Code: f.Code, At: place(p, f.At)}
	}
	return &program{Program: p, Code: c}, api.Fault{}
}

// place is where that stands which kinds.Check means by a number.
func place(p api.Program, at int) int {
	switch {
	case at == -1:
		return 0
	case at < -1:
		return p.Stages[-2-at].At
	}
	var all []int
	for _, stage := range p.Stages {
		all = withPlaces(all, stage.Body)
	}
	return all[at]
}

// withPlaces adds those of the statements, in the order of their numbers.
func withPlaces(all []int, block []api.Stmt) []int {
	for _, s := range block {
		all = append(all, s.At)
		all = withPlaces(all, s.Body)
		all = withPlaces(all, s.Else)
	}
	return all
}

func (s *program) count() int { return syntax.Count(s.Program) }

func (s *program) answer(p *page, a ask) bool {
	switch a.form {
	case "judge":
		s.judge(p)
	case "why N":
		return s.why(p, a.numbers[0])
	case "bound N":
		s.bound(p, int(a.numbers[0]))
	case "print":
		s.print(p)
	case "begin N ..":
		s.begin(p, a.numbers)
	default:
		return s.run != nil && s.run.answer(p, a)
	}
	return true
}

func (s *program) judge(p *page) {
	v, f := order.Judge(s.Code)
	if f.Code != 0 {
		p.no(f)
		return
	}
	for _, n := range s.notes(v) {
		p.say(rules[n.Rule], n.Name, decimal(n.At), n.Vars[n.Var].Name)
	}
	for _, w := range v.Round {
		p.say("round", decimal(w.From), decimal(w.To), "by", decimal(w.Task), decimal(w.At))
	}
	if order.Fine(v) {
		row(p, "fine", v.Ranks)
	}
}

func (s *program) notes(v api.Verdict) []note {
	var all []note
	for stage, list := range v.Notes {
		for _, n := range list {
			all = append(all, note{&s.Procs[stage], n})
		}
	}
	return all
}

// why is false, if there is no such note.
func (s *program) why(p *page, number int64) bool {
	v, f := order.Judge(s.Code)
	if f.Code != 0 {
		p.no(f)
		return true
	}
	all := s.notes(v)
	if number < 0 || number >= int64(len(all)) {
		return false
	}
	n := all[number]
	way, f := explain.Why(*n.Proc, n.Note)
	if f.Code != 0 {
		p.no(f)
		return true
	}
	row(p, "way", way)
	return true
}

func (s *program) bound(p *page, inputs int) {
	steps, f := bound.Steps(s.Code, inputs)
	if f.Code != 0 {
		p.no(f)
		return
	}
	p.say("bound", decimal(steps))
}

func (s *program) print(p *page) {
	src, f := render.Print(s.Program)
	if f.Code != 0 {
		p.no(f)
		return
	}
	p.WriteString(src)
}

func (s *program) begin(p *page, in []int64) {
	w, f := world.New(s.Code, in)
	if f.Code != 0 {
		p.no(f)
		return
	}
	s.run = &run{w, s.Procs}
	p.say("begun")
}
