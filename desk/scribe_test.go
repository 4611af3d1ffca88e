package desk

import (
	"fmt"
	"math/rand"
	"slices"
	"strings"
)

// scribe makes programs that are right by their names and types alone: ends are
// used as it comes.
type scribe struct {
	*rand.Rand
	stages [][]string // for each stage the types of its parameters
	named  int
	left   int // how many statements may still be written
}

// known are the names of a block, and of those around it, with their types.
type known []struct{ name, of string }

func (k known) pick(s *scribe, is func(of string) bool) (name, of string, found bool) {
	for _, at := range s.Perm(len(k)) {
		if is(k[at].of) {
			return k[at].name, k[at].of, true
		}
	}
	return "", "", false
}

func (s *scribe) name() string {
	s.named++
	return fmt.Sprint("n", s.named)
}

// block writes some statements, block within block.
func (s *scribe) block(k known, deep int) string {
	k = slices.Clone(k)
	var out []string
	for range 1 + s.Intn(5) {
		if s.left == 0 {
			break
		}
		s.left--
		var line string
		line, k = s.stmt(k, deep)
		out = append(out, line)
	}
	return strings.Join(out, " ")
}

func (s *scribe) stmt(k known, deep int) (string, known) {
	sends := func(of string) bool { return strings.HasPrefix(of, "send") }
	receives := func(of string) bool { return strings.HasPrefix(of, "recv") }
	a, of, is := k.pick(s, sends)
	b, from, got := k.pick(s, receives)
	name := s.name()
	within := func(more known) string { return "{ " + s.block(append(slices.Clone(k), more...), deep+1) + " }" }
	taken := known{{name, strings.TrimPrefix(from, "recv ")}}
	switch n := s.Intn(17); {
	case n < 2 && s.named < 20:
		of := []string{"int", "int", "send int", "recv int"}[s.Intn(4)]
		other := s.name()
		line := fmt.Sprintf("chan %s %s %s %d;", name, other, of, 1+s.Intn(5))
		return line, append(k, known{{name, "send " + of}, {other, "recv " + of}}...)
	case n < 5 && is:
		if thing, _, is := k.pick(s, func(t string) bool { return t == of[5:] }); is {
			return fmt.Sprintf("send %s %s;", a, thing), k
		}
		if of == "send int" {
			return fmt.Sprintf("send %s %d;", a, s.Intn(9)), k
		}
	case n < 7 && got && deep < 4:
		return fmt.Sprintf("for %s from %s %s", name, b, within(taken)), k
	case n < 8 && got && deep < 4:
		return fmt.Sprintf("take %s from %s %s else %s", name, b, within(taken), within(nil)), k
	case n < 9 && deep < 4:
		return fmt.Sprintf("repeat %d %s", s.Intn(4), within(nil)), k
	case n < 11 && deep < 4:
		return fmt.Sprintf("if %d %s else %s", s.Intn(2), within(nil), within(nil)), k
	case n < 12 && len(s.stages) > 0:
		if line, is := s.spawn(k); is {
			return line, k
		}
	case n < 13 && is && s.named < 20:
		return fmt.Sprintf("clone %s %s;", name, a), append(k, known{{name, of}}...)
	case n < 15 && is:
		return fmt.Sprintf("close %s;", a), k
	case n < 17 && got:
		return fmt.Sprintf("%s %s;", []string{"drain", "abandon"}[s.Intn(2)], b), k
	}
	return "emit 1;", k
}

// spawn hands on what fits, one end more than once, too.
func (s *scribe) spawn(k known) (string, bool) {
	stage := s.Intn(len(s.stages))
	var args []string
	for _, t := range s.stages[stage] {
		name, _, is := k.pick(s, func(of string) bool { return of == t })
		if !is {
			return "", false
		}
		args = append(args, name)
	}
	return fmt.Sprintf("spawn p%d(%s);", stage, strings.Join(args, ", ")), true
}

func (s *scribe) program() string {
	s.stages = nil
	var out []string
	for stage := range s.Intn(3) {
		var k known
		var types, params []string
		s.named, s.left = 0, 10
		for range 1 + s.Intn(3) {
			of := []string{"recv int", "send int", "send int", "recv send int", "send recv int"}[s.Intn(5)]
			name := s.name()
			k = append(k, known{{name, of}}...)
			types, params = append(types, of), append(params, name+" "+of)
		}
		out = append(out, fmt.Sprintf("stage p%d(%s) { %s }\n", stage, strings.Join(params, ", "), s.block(k, 0)))
		s.stages = append(s.stages, types)
	}
	s.named, s.left = 0, 24
	of := []string{"int", "send int", "recv int"}[s.Intn(3)]
	first := "chan a b int 2; chan c d " + of + " 1;"
	k := known{{"in", "recv int"}, {"a", "send int"}, {"b", "recv int"}, {"c", "send " + of}, {"d", "recv " + of}}
	out = append(out, "stage main(in recv int) { "+first+" "+s.block(k, 0)+" "+s.block(k, 0)+" }")
	return strings.Join(out, "")
}

func scribbled(seed int64, n int) []string {
	s := &scribe{Rand: rand.New(rand.NewSource(seed))}
	var all []string
	for range n {
		all = append(all, s.program())
	}
	return all
}
