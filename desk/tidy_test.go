package desk

import (
	"fmt"
	"math/rand"
	"slices"
	"strings"
)

// tidy makes programs that get rid of each end where it was bound; often they
// are fine.
type tidy struct {
	*rand.Rand
	stages [][]string // for each stage the types of its parameters
	named  int
	left   int // how many statements may still be written
	chans  int
	clones bool
}

// held is a name that is known; of an end which channel's it is, as far as that
// can be told.
type held struct {
	name, of string
	channel  int
}

func (h held) sends() bool { return strings.HasPrefix(h.of, "send") }

func (h held) receives() bool { return strings.HasPrefix(h.of, "recv") }

// scope is what a block knows: its own ends, which it has to get rid of, and
// what else there is.
type scope struct {
	own, others []held
	deep        int
}

func (s *scope) all() []held { return slices.Concat(s.own, s.others) }

func (s *scope) lose(h held) {
	s.own = slices.DeleteFunc(s.own, func(o held) bool { return o.name == h.name })
}

func (s *scope) within(more ...held) *scope {
	inner := &scope{others: s.all(), deep: s.deep + 1}
	for _, h := range more {
		if h.of == "int" {
			inner.others = append(inner.others, h)
		} else {
			inner.own = append(inner.own, h)
		}
	}
	return inner
}

func (w *tidy) name() string {
	w.named++
	return fmt.Sprint("n", w.named)
}

func (w *tidy) of(all ...string) string { return all[w.Intn(len(all))] }

// some is one of those that are so, if there is one.
func (w *tidy) some(all []held, is func(h held) bool) (held, bool) {
	for _, k := range w.Perm(len(all)) {
		if is(all[k]) {
			return all[k], true
		}
	}
	return held{}, false
}

// apart: is the channel's other end not known here? (Who waits for an end, having
// the other one, may wait for himself.)
func (s *scope) apart(h held) bool {
	return !slices.ContainsFunc(s.all(), func(o held) bool { return o.channel == h.channel && o.sends() != h.sends() && o.of != "int" })
}

func (w *tidy) expr(s *scope) string {
	h, is := w.some(s.all(), func(h held) bool { return h.of == "int" })
	if !is || w.Intn(3) == 0 {
		return fmt.Sprint(w.Intn(5))
	}
	return h.name + w.of("", " + 1", " * 2", " < 3", " - 2", " == 1")
}

// block writes some statements, and gets rid of what is left.
func (w *tidy) block(s *scope) string {
	var out []string
	for range 1 + w.Intn(5) {
		if w.left > 0 {
			w.left--
			out = append(out, w.stmt(s))
		}
	}
	for len(s.own) > 0 {
		out = append(out, w.getRid(s))
	}
	return strings.Join(out, " ")
}

// getRid begins with ends to send, mostly.
func (w *tidy) getRid(s *scope) string {
	h, is := w.some(s.own, held.sends)
	if !is || w.Intn(12) == 0 {
		h = s.own[w.Intn(len(s.own))]
	}
	if w.Intn(2) == 0 {
		if line, is := w.spawn(s, h); is {
			return line
		}
	}
	s.lose(h)
	switch {
	case h.sends():
		return "close " + h.name + ";"
	case w.Intn(4) == 0 || !s.apart(h):
		return "abandon " + h.name + ";"
	}
	return "drain " + h.name + ";"
}

func (w *tidy) stmt(s *scope) string {
	sending, sends := w.some(s.all(), func(h held) bool { return h.sends() && s.apart(h) })
	taking, takes := w.some(s.all(), func(h held) bool { return h.receives() && s.apart(h) })
	switch n := w.Intn(20); {
	case n < 6 && w.named < 24:
		return w.channel(s)
	case n < 9 && sends:
		if line, is := w.send(s, sending); is {
			return line
		}
	case n < 12 && takes && s.deep < 4:
		return w.loop(s, taking)
	case n < 13 && s.deep < 4:
		return fmt.Sprintf("repeat %s { %s }", w.expr(s), w.block(s.within()))
	case n < 14 && s.deep < 4:
		return fmt.Sprintf("if %s { %s } else { %s }", w.expr(s), w.block(s.within()), w.block(s.within()))
	case n < 15 && w.clones && sends && w.named < 24:
		h := held{w.name(), sending.of, sending.channel}
		s.own = append(s.own, h)
		return fmt.Sprintf("clone %s %s;", h.name, sending.name)
	case n < 17 && len(s.own) > 0:
		return w.getRid(s)
	}
	return "emit " + w.expr(s) + ";"
}

// channel hands one of the ends on, if somebody takes it.
func (w *tidy) channel(s *scope) string {
	w.chans++
	of := w.of("int", "int", "int", "send int", "recv int", "recv send int")
	a, b := held{w.name(), "send " + of, w.chans}, held{w.name(), "recv " + of, w.chans}
	s.own = append(s.own, a, b)
	line := fmt.Sprintf("chan %s %s %s %d;", a.name, b.name, of, 1+w.Intn(3))
	first := []held{a, b}[w.Intn(2)]
	if more, is := w.spawn(s, first); is {
		return line + " " + more
	}
	return line
}

func (w *tidy) send(s *scope, to held) (string, bool) {
	of := strings.TrimPrefix(to.of, "send ")
	if of == "int" {
		return fmt.Sprintf("send %s %s;", to.name, w.expr(s)), true
	}
	h, is := w.some(s.own, func(h held) bool { return h.of == of })
	if is {
		s.lose(h)
	}
	return fmt.Sprintf("send %s %s;", to.name, h.name), is
}

func (w *tidy) loop(s *scope, from held) string {
	w.chans++
	x := held{w.name(), strings.TrimPrefix(from.of, "recv "), w.chans}
	if w.Intn(4) > 0 {
		return fmt.Sprintf("for %s from %s { %s }", x.name, from.name, w.block(s.within(x)))
	}
	return fmt.Sprintf("take %s from %s { %s } else { %s }", x.name, from.name, w.block(s.within(x)), w.block(s.within()))
}

// spawn hands an end on to a stage that takes such ones, and others with it.
func (w *tidy) spawn(s *scope, first held) (string, bool) {
	for _, stage := range w.Perm(len(w.stages)) {
		left := slices.Clone(s.own)
		var args []string
		handed := false
		for _, of := range w.stages[stage] {
			if of == "int" {
				args = append(args, w.expr(s))
				continue
			}
			h, is := w.some(left, func(h held) bool {
				return h.of == of && (h.name == first.name || handed || of != first.of) && (h.channel != first.channel || h.name == first.name)
			})
			if !is {
				break
			}
			handed = handed || h.name == first.name
			left = slices.DeleteFunc(left, func(o held) bool { return o.name == h.name })
			args = append(args, h.name)
		}
		if len(args) == len(w.stages[stage]) && handed {
			s.own = left
			return fmt.Sprintf("spawn p%d(%s);", stage, strings.Join(args, ", ")), true
		}
	}
	return "", false
}

// stage is one of the parameters of some types, which it uses mostly.
func (w *tidy) stage(n int) string {
	s := &scope{}
	var types, params []string
	w.named, w.left = 0, 8
	for range 1 + w.Intn(3) {
		w.chans++
		h := held{w.name(), w.of("int", "recv int", "recv int", "send int", "send int", "recv send int", "send send int", "recv recv int", "send recv int"), w.chans}
		types, params = append(types, h.of), append(params, h.name+" "+h.of)
		if h.of == "int" {
			s.others = append(s.others, h)
		} else {
			s.own = append(s.own, h)
		}
	}
	said := fmt.Sprintf("stage p%d(%s) { %s }\n", n, strings.Join(params, ", "), w.block(s))
	w.stages = append(w.stages, types)
	return said
}

func (w *tidy) program() string {
	w.stages, w.chans, w.clones = nil, 0, w.Intn(2) == 0
	var out []string
	for n := range 1 + w.Intn(5) {
		out = append(out, w.stage(n))
	}
	w.named, w.left = 0, 12
	s := &scope{own: []held{{"in", "recv int", 0}}}
	out = append(out, "stage main(in recv int) {")
	for range w.Intn(4) {
		out = append(out, " "+w.channel(s))
	}
	return strings.Join(out, "") + " " + w.block(s) + " }"
}

func tidied(seed int64, n int) []string {
	w := &tidy{Rand: rand.New(rand.NewSource(seed))}
	var all []string
	for range n {
		all = append(all, w.program())
	}
	return all
}
