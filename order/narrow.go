package order

import (
	"slices"

	"pipewright/api"
	"pipewright/ranks"
)

// pipes tells for each channel that is received from through which ones is
// sent at the same instruction.
type pipes [api.MaxSites][api.MaxSites]bool

func (s *scene) narrow() bool {
	var all pipes
	narrow := true
	s.each(func(p post) {
		narrow = narrow && s.narrowAt(p, &all)
	})
	return narrow && !all.haveRound()
}

// narrowAt asks of one post whether it holds little enough, and lays the pipes
// that it is of.
func (s *scene) narrowAt(p post, all *pipes) bool {
	others := p.others()
	if len(others) == 0 {
		return true
	}
	held := others[0]
	if len(others) > 1 || s.sends(p.task, held) == s.sends(p.task, p.on) {
		return false
	}
	received, sent := s.May[p.task][held], s.May[p.task][p.on]
	if s.sends(p.task, held) {
		received, sent = sent, received
	}
	if slices.ContainsFunc(received, func(site int) bool { return slices.Contains(sent, site) }) {
		return false
	}
	all.lay(received, sent)
	return true
}

func (l *pipes) lay(received, sent []int) {
	for _, from := range received {
		for _, to := range sent {
			l[from][to] = true
		}
	}
}

func (l *pipes) haveRound() bool {
	var edges [][2]int
	for from, tos := range l {
		for to, is := range tos {
			if is {
				edges = append(edges, [2]int{from, to})
			}
		}
	}
	_, f := ranks.Ranks(len(l), edges)
	return f.Code != 0
}
