package desk

import (
	"pipewright/api"
	"pipewright/world"
)

// mostSteps is how many one line may ask for.
const mostSteps = 100000

// events has an empty text ahead, so that a kind is the number of its word.
var events = [...]string{"", "none", "sent", "twice", "owner", "moved", "gone", "leak"}

// run is what is run, with the stages of its tasks.
type run struct {
	*world.World
	procs []api.Proc
}

func (r *run) answer(p *page, a ask) bool {
	switch a.form {
	case "step N":
		r.step(p, int(a.numbers[0]))
	case "run N":
		return r.goOn(p, a.numbers[0])
	case "tasks":
		r.tellTasks(p)
	case "chans":
		r.tellChans(p)
	case "events":
		r.tellEvents(p)
	case "out":
		row(p, "out", r.Out())
	default:
		return false
	}
	return true
}

func (r *run) step(p *page, task int) {
	if r.Step(task) {
		p.say("steps")
	} else {
		p.say("stays")
	}
}

// goOn is false of a number that may not be asked for.
func (r *run) goOn(p *page, most int64) bool {
	if most < 0 || most > mostSteps {
		return false
	}
	p.say("ran", decimal(steps(r.World, int(most))))
	return true
}

// steps answers how many were done.
func steps(w *world.World, most int) int {
	a := alive{World: w}
	for done := range most {
		task, is := a.firstReady()
		if !is {
			return done
		}
		w.Step(task)
	}
	return most
}

func (r *run) tellTasks(p *page) {
	for k := range r.Tasks() {
		x := r.Task(k)
		number, stage := decimal(k), r.procs[x.Stage].Name
		switch x.State {
		case api.TaskReady:
			p.say("task", number, stage, "ready")
		case api.TaskWaits:
			p.say("task", number, stage, "waits", decimal(x.Wait))
		case api.TaskOver:
			p.say("task", number, stage, "over")
		}
	}
}

func (r *run) tellChans(p *page) {
	for k, c := range r.Chans() {
		there := "there"
		if c.Gone {
			there = "gone"
		}
		p.say("chan", decimal(k), decimal(c.Senders), there, decimal(len(c.Items)))
	}
}

func (r *run) tellEvents(p *page) {
	for _, e := range r.Events() {
		p.say("event", events[e.Kind], decimal(e.Task), decimal(e.At), decimal(e.End))
	}
}
