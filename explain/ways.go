package explain

import "slices"

// shortest goes from all that ways begin with to all that they come to, the
// nearest first. Spots that are as near are gone on from in the order of their
// ways, and what follows each of them rises: so whoever comes to a spot first
// is ahead of it on the way with the lower number where several as short differ
// first, and the first spot that shows it ends the way that is asked for.
func (q *inquiry) shortest() []int {
	ahead := map[spot]spot{}
	line := q.firsts()
	for k := 0; k < len(line); k++ {
		s := line[k]
		if q.shows(s) {
			return wayTo(s, ahead)
		}
		q.onward(s, func(next spot) {
			if _, known := ahead[next]; !known {
				ahead[next] = s
				line = append(line, next)
			}
		})
	}
	return nil
}

// firsts are all that a way may begin with, rising.
func (q *inquiry) firsts() []spot {
	var all []spot
	for i := begin; i < len(q.Ins); i++ {
		if q.isFirst(i) {
			all = append(all, spot{i, first})
		}
	}
	return all
}

func wayTo(s spot, ahead map[spot]spot) []int {
	way := []int{s.at}
	for s.state != first {
		s = ahead[s]
		way = append(way, s.at)
	}
	slices.Reverse(way)
	return way
}

// follow goes along a list and tells its last spot, if it is a way.
func (q *inquiry) follow(way []int) (spot, bool) {
	if len(way) == 0 || !q.isFirst(way[0]) {
		return spot{}, false
	}
	s := spot{way[0], first}
	for _, to := range way[1:] {
		next, is := q.step(s, to)
		if !is {
			return spot{}, false
		}
		s = next
	}
	return s, true
}

// step goes from a spot to an instruction, if that may follow it on a way.
func (q *inquiry) step(s spot, to int) (next spot, is bool) {
	q.onward(s, func(one spot) {
		if one.at == to {
			next, is = one, true
		}
	})
	return next, is
}
