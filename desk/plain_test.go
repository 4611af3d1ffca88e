package desk

import (
	"fmt"
	"math/big"
	"slices"
	"strings"

	"pipewright/api"
	"pipewright/bound"
	"pipewright/explain"
	"pipewright/kinds"
	"pipewright/lower"
	"pipewright/order"
	"pipewright/render"
	"pipewright/syntax"
	"pipewright/text"
	"pipewright/world"
)

// plain is a desk that keeps nothing but what was said: of each line it begins
// anew, out of all texts, numbers and picks.
type plain struct {
	text  []string
	src   string // that of the program
	has   bool
	in    []int64
	picks []int
	begun bool
	seen  map[string]int // how often what came
}

func newPlain() *plain { return &plain{seen: map[string]int{}} }

func (p *plain) do(lines []string) (string, api.Fault) {
	if len(lines) > 400 {
		return "", fault(api.ErrMany, -1)
	}
	for n, line := range lines {
		if len(line) > 12000 || strings.IndexByte(line, 10) >= 0 {
			return "", fault(api.ErrText, n)
		}
	}
	told := ""
	for _, line := range lines {
		told += p.line(line)
	}
	return told, fault(0, 0)
}

func (p *plain) line(line string) string {
	if len(line) > 0 && line[0] == '|' {
		p.text = append(p.text, line[1:])
		p.seen["|"]++
		return ""
	}
	words := slices.DeleteFunc(strings.Split(line, " "), func(word string) bool { return word == "" })
	if len(words) == 0 {
		p.seen["no words"]++
		return ""
	}
	var numbers []int64
	for _, word := range words[1:] {
		n, is := new(big.Int).SetString(word, 10)
		if !is || n.String() != word || !n.IsInt64() {
			p.seen["no number"]++
			return "what\n"
		}
		numbers = append(numbers, n.Int64())
	}
	if told := p.words(words[0], numbers); told != "what" {
		return p.tells(words[0], told)
	}
	if slices.Contains(tables, words[0]) {
		p.seen[words[0]+" what"]++
	} else {
		p.seen["other words"]++
	}
	return "what\n"
}

// tables are the words that there are.
var tables = strings.Fields("new check judge why bound print begin step run tasks chans events out")

func (p *plain) tells(word, told string) string {
	if told == "" {
		p.seen[word+" tells nothing"]++
		return ""
	}
	p.seen[word+" "+strings.Fields(told)[0]]++
	return told + "\n"
}

// words is what the tables say of a first word, without the newline at the end.
func (p *plain) words(word string, numbers []int64) string {
	one := len(numbers) == 1
	n := append(numbers, 0)[0]
	switch none := len(numbers) == 0; {
	case word == "new" && none:
		seen := p.seen
		*p = *newPlain()
		p.seen = seen
		return ""
	case word == "check" && none:
		return p.check()
	case !p.has:
		return "what"
	case word == "judge" && none:
		return p.judge()
	case word == "why" && one:
		return p.why(n)
	case word == "bound" && one:
		steps, f := bound.Steps(p.code(), int(n))
		return orNo(f, fmt.Sprint("bound ", steps))
	case word == "print" && none:
		src, _ := render.Print(p.program())
		return src[:len(src)-1]
	case word == "begin":
		return p.begin(numbers)
	case !p.begun:
		return "what"
	case word == "step" && one:
		return p.step(n)
	case word == "run" && one && n >= 0 && n <= 100000:
		return p.run(int(n))
	case word == "tasks" && none:
		return p.tasks()
	case word == "chans" && none:
		return p.chans()
	case word == "events" && none:
		return p.events()
	case word == "out" && none:
		return strings.TrimRight("out "+strings.Trim(fmt.Sprint(p.world().Out()), "[]"), " ")
	}
	return "what"
}

func (p *plain) program() api.Program {
	prog, _ := syntax.Parse(p.src)
	return prog
}

func (p *plain) code() api.Code {
	c, _ := lower.Lower(p.program())
	return c
}

func orNo(f api.Fault, told string) string {
	if f.Code != 0 {
		return "no " + text.Word(f.Code)
	}
	return told
}

func (p *plain) check() string {
	p.src, p.has, p.begun = strings.Join(p.text, "\n"), false, false
	prog, f := syntax.Parse(p.src)
	if f.Code == 0 {
		f = kinds.Check(prog)
		f.At = p.place(prog, f)
	}
	if f.Code == 0 {
		p.has = true
		return fmt.Sprint("yes ", len(places(prog)))
	}
	p.seen["check "+text.Word(f.Code)]++
	if len(p.src) > 12000 {
		return "no " + text.Word(f.Code)
	}
	ahead := p.src[:f.At]
	line := strings.Count(ahead, "\n") + 1
	return fmt.Sprint("no ", line, ":", len(ahead)-strings.LastIndex(ahead, "\n"), " ", text.Word(f.Code))
}

// places are the statements', rising: as they stand in the text.
func places(prog api.Program) []int {
	var all []int
	var within func(list []api.Stmt)
	within = func(list []api.Stmt) {
		for _, s := range list {
			within(s.Else)
			within(s.Body)
			all = append(all, s.At)
		}
	}
	for _, stage := range prog.Stages {
		within(stage.Body)
	}
	slices.Sort(all)
	return all
}

func (p *plain) place(prog api.Program, f api.Fault) int {
	if f.Code == 0 || f.At == -1 {
		p.seen["a fault of none"]++
		return 0
	}
	if f.At >= 0 {
		p.seen["a fault of a statement"]++
		return places(prog)[f.At]
	}
	p.seen["a fault of a stage"]++
	return prog.Stages[-f.At-2].At
}

func (p *plain) judge() string {
	c := p.code()
	v, f := order.Judge(c)
	var lines []string
	for n, list := range v.Notes {
		for _, note := range list {
			rule := strings.Fields("? gone maybe kept left")[note.Rule]
			p.seen["note "+rule]++
			lines = append(lines, fmt.Sprint(rule, " ", c.Procs[n].Name, " ", note.At, " ", c.Procs[n].Vars[note.Var].Name))
		}
	}
	for _, w := range v.Round {
		p.seen["round"]++
		lines = append(lines, fmt.Sprint("round ", w.From, " ", w.To, " by ", w.Task, " ", w.At))
	}
	if len(lines) == 0 {
		lines = []string{"fine " + strings.Trim(fmt.Sprint(v.Ranks), "[]")}
	}
	return orNo(f, strings.Join(lines, "\n"))
}

func (p *plain) why(n int64) string {
	c := p.code()
	v, f := order.Judge(c)
	if f.Code != 0 {
		return orNo(f, "")
	}
	for stage, list := range v.Notes {
		for _, note := range list {
			if n == 0 {
				way, f := explain.Why(c.Procs[stage], note)
				return orNo(f, "way "+strings.Trim(fmt.Sprint(way), "[]"))
			}
			n--
		}
	}
	return "what"
}

func (p *plain) begin(in []int64) string {
	if len(in) > 1000 {
		return "no many"
	}
	p.in, p.picks, p.begun = in, nil, true
	return "begun"
}

// world goes through all picks from the beginning.
func (p *plain) world() *world.World {
	w, _ := world.New(p.code(), p.in)
	for _, k := range p.picks {
		w.Step(k)
	}
	return w
}

func (p *plain) step(k int64) string {
	if !slices.Contains(p.world().Ready(), int(k)) {
		return "stays"
	}
	p.picks = append(p.picks, int(k))
	return "steps"
}

func (p *plain) run(most int) string {
	w := p.world()
	for n := range most {
		ready := w.Ready()
		if len(ready) == 0 {
			p.seen["run to where none is ready"]++
			return fmt.Sprint("ran ", n)
		}
		w.Step(ready[0])
		p.picks = append(p.picks, ready[0])
	}
	p.seen["run all that was asked for"]++
	return fmt.Sprint("ran ", most)
}

func (p *plain) tasks() string {
	var lines []string
	c, w := p.code(), p.world()
	for k := range w.Tasks() {
		x := w.Task(k)
		how := map[int]string{api.TaskReady: "ready", api.TaskWaits: fmt.Sprint("waits ", x.Wait), api.TaskOver: "over"}[x.State]
		p.seen["task "+how[:4]]++
		lines = append(lines, fmt.Sprint("task ", k, " ", c.Procs[x.Stage].Name, " ", how))
	}
	return strings.Join(lines, "\n")
}

func (p *plain) chans() string {
	var lines []string
	for k, c := range p.world().Chans() {
		how := map[bool]string{false: "there", true: "gone"}[c.Gone]
		p.seen["chan "+how]++
		lines = append(lines, fmt.Sprint("chan ", k, " ", c.Senders, " ", how, " ", len(c.Items)))
	}
	return strings.Join(lines, "\n")
}

func (p *plain) events() string {
	var lines []string
	for _, e := range p.world().Events() {
		kind := strings.Fields("? none sent twice owner moved gone leak")[e.Kind]
		p.seen["event "+kind]++
		lines = append(lines, fmt.Sprint("event ", kind, " ", e.Task, " ", e.At, " ", e.End))
	}
	return strings.Join(lines, "\n")
}
