package order

import (
	"fmt"
	"math/rand"
	"slices"
	"strings"
	"testing"

	"pipewright/api"
)

// parts are stages that get rid of all that they have: the types of what they
// are handed, as programs write them, and what they do with a, b, c, ..
var parts = []struct{ takes, does string }{
	{"recv int", "drain a;"},
	{"recv int", "for x from a { emit x; } drain a;"},
	{"recv int", "abandon a;"},
	{"send int", "send a 1; close a;"},
	{"send int", "close a;"},
	{"recv int, send int", "for x from a { send b x; } drain a; close b;"},
	{"recv int, send int", "for x from a { send b x; } drain a; close b;"},
	{"recv int, send int", "for x from a { send b x; send b x; } drain a; close b;"},
	{"recv int, send int", "drain a; close b;"},
	{"recv int, send int", "drain a; send b 1; close b;"},
	{"recv int, send int", "send b 1; close b; drain a;"},
	{"recv int, send int", "send b 1; abandon a; close b;"},
	{"recv int, send int", "take x from a { send b x; } else { } abandon a; close b;"},
	{"recv int, send int", "if 1 { send b 1; } close b; repeat 2 { take x from a { } else { } } abandon a;"},
	{"recv int, recv int", "drain a; drain b;"},
	{"recv int, recv int", "drain b; drain a;"},
	{"send int, send int", "send a 1; close a; send b 1; close b;"},
	{"send int, send int", "send a 1; send b 1; close a; close b;"},
	{"recv int, send int, send int", "for x from a { send b x; send c x; } drain a; close b; close c;"},
	{"recv int, recv int, send int", "for x from a { send c x; } drain a; for y from b { send c y; } drain b; close c;"},
	{"recv int, recv int, send int", "for x from a { take y from b { send c x + y; } else { } } drain a; drain b; close c;"},
	{"send int", "clone z a; send a 1; close a; send z 1; close z;"},
	{"recv int, send int", "chan u v int 1; close u; drain v; drain a; close b;"},
	{"recv send int", "for s from a { send s 7; close s; } drain a;"},
	{"recv send int", "drain a;"},
	{"send send int", "chan s r int 1; send a s; for x from r { emit x; } drain r; close a;"},
	{"send send int", "chan s r int 1; send a s; close a; drain r;"},
	{"recv recv int", "for s from a { for x from s { emit x; } drain s; } drain a;"},
	{"recv recv int", "for s from a { abandon s; } drain a;"},
	{"send recv int", "chan s r int 1; send a r; send s 1; close s; close a;"},
	{"send recv int", "chan s r int 1; send a r; close a; send s 1; close s;"},
	{"recv int, send recv int", "send b a; close b;"},
	{"send int, send send int", "send b a; close b;"},
	{"recv recv int, send recv int", "for s from a { send b s; } drain a; close b;"},
}

// weaver makes programs whose ends are used rightly, mostly.
type weaver struct{ *rand.Rand }

// part writes one of them as a stage.
func (w weaver) part(name string, n int) string {
	var params []string
	for k, t := range strings.Split(parts[n].takes, ", ") {
		params = append(params, "abc"[k:k+1]+" "+t)
	}
	return fmt.Sprintf("stage %s(%s) { %s }\n", name, strings.Join(params, ", "), parts[n].does)
}

// fit takes ends of the types that a part asks for out of those that are there.
func (w weaver) fit(n int, ends map[string][]string) ([]string, bool) {
	left := map[string][]string{}
	for t, names := range ends {
		left[t] = slices.Clone(names)
	}
	var args []string
	for _, t := range strings.Split(parts[n].takes, ", ") {
		names := left[t]
		if len(names) == 0 {
			return nil, false
		}
		k := w.Intn(len(names))
		args = append(args, names[k])
		left[t] = slices.Delete(names, k, k+1)
	}
	clear(ends)
	for t, names := range left {
		if len(names) > 0 {
			ends[t] = names
		}
	}
	return args, true
}

// program has some channels, and tasks that share their ends out.
func (w weaver) program(chans int, few bool) string {
	ends := map[string][]string{"recv int": {"in"}}
	var lines []string
	for k := range chans {
		of := "int"
		if !few {
			of = pickOf(w, []string{"int", "int", "int", "send int", "recv int"})
		}
		lines = append(lines, fmt.Sprintf("chan s%d r%d %s %d;", k, k, of, 1+w.Intn(5)))
		ends["send "+of] = append(ends["send "+of], fmt.Sprint("s", k))
		ends["recv "+of] = append(ends["recv "+of], fmt.Sprint("r", k))
	}
	var stages []string
	names := map[int]string{}
	for len(ends) > 0 {
		n := w.Intn(len(parts))
		if few {
			n = pickOf(w, []int{0, 4, 5, 5, 5, 5, 8, 9, 11})
		}
		if len(names) == 8 && names[n] == "" {
			// There are enough stages: main gets rid of what is left.
			lines = append(lines, rest(ends)...)
			break
		}
		args, is := w.fit(n, ends)
		if !is {
			continue
		}
		if names[n] == "" {
			names[n] = fmt.Sprint("p", n)
			stages = append(stages, w.part(names[n], n))
		}
		lines = append(lines, fmt.Sprintf("spawn %s(%s);", names[n], strings.Join(args, ", ")))
	}
	if w.Intn(12) == 0 { // something is left out: an end is left, or not there
		at := w.Intn(len(lines))
		if !strings.HasPrefix(lines[at], "chan") {
			lines = slices.Delete(lines, at, at+1)
		}
	}
	return strings.Join(stages, "") + "stage main(in recv int) { " + strings.Join(lines, " ") + " }"
}

func pickOf[T any](w weaver, all []T) T { return all[w.Intn(len(all))] }

func rest(ends map[string][]string) []string {
	var lines []string
	for t, names := range ends {
		for _, name := range names {
			if strings.HasPrefix(t, "send") {
				lines = append(lines, "close "+name+";")
			} else {
				lines = append(lines, "drain "+name+";")
			}
		}
	}
	slices.Sort(lines) // what is to be closed ahead of what is to be drained
	return lines
}

func somePrograms(seed int64, n int) []string {
	w := weaver{rand.New(rand.NewSource(seed))}
	var all []string
	for k := range n {
		all = append(all, w.program(w.Intn(9), k%2 == 0))
	}
	return all
}

// What follows: what is narrow is fine. Of many programs, and against the second
// way.
func TestNarrowIsFine(t *testing.T) {
	seen := map[string]int{}
	for _, src := range somePrograms(81, 6000) {
		a := wantSecond(t, lowered(t, src))
		if a.narrow && !Fine(a.verdict) {
			t.Fatalf("%s is narrow, but not fine: %s", src, shown(a.verdict))
		}
		a.seenOf(seen)
		if a.narrow && len(a.waits) > 0 {
			seen["narrow with waits"]++
		}
	}
	wantSeen(t, seen, 60, "no waits", "ranks up to 1", "ranks up to 2", "ranks up to 3", "a round of 1", "a round of 2", "a round of 3", "notes", "narrow", "fine", "narrow with waits")
}

// What follows: of codes as they come, most of which break rules.
func TestNarrowIsFineOfCodes(t *testing.T) {
	narrow := 0
	for _, c := range append(someCodes(82, 20000, 8), someCodes(83, 5000, 25)...) {
		is, f := Narrow(c)
		if !is {
			continue
		}
		narrow++
		if v, h := Judge(c); f != fault(0, 0) || h != f || !Fine(v) {
			t.Fatalf("%s is narrow, but not fine: %s %v", said(c), shown(v), h)
		}
	}
	if narrow < 300 {
		t.Errorf("%d narrow ones are too few", narrow)
	}
}

// What follows: of all ways to wire three channels by tasks that wait to send,
// or to receive, as they have the other end.
func TestNarrowIsFineOfAllWirings(t *testing.T) {
	counts := map[[2]bool]int{}
	orders := [][]string{{"1", "2", "3"}, {"1", "3", "2"}, {"2", "1", "3"}, {"2", "3", "1"}, {"3", "1", "2"}, {"3", "2", "1"}}
	for set := range 1 << 3 {
		for kinds := range 1 << 3 {
			for _, to := range orders {
				var tasks []string
				for k := range 3 {
					if set>>k&1 == 1 {
						tasks = append(tasks, "fg"[kinds>>k&1:][:1]+fmt.Sprint(k+1)+to[k])
					}
				}
				a := wantSecond(t, wired(3, tasks...))
				fine := Fine(a.verdict)
				counts[[2]bool{a.narrow, fine}]++
				if a.narrow && !fine {
					t.Fatalf("%v are narrow, but not fine", tasks)
				}
			}
		}
	}
	if counts[[2]bool{true, true}] < 50 || counts[[2]bool{false, true}] < 20 || counts[[2]bool{false, false}] < 50 {
		t.Errorf("too few of a kind: %v", counts)
	}
}

// What chapter 10 has follow, of what is told here: ranks rise along each wait,
// or there is a round, each wait leading to the next one.
func TestRanksRiseOrRoundsClose(t *testing.T) {
	for _, src := range somePrograms(84, 1500) {
		c := lowered(t, src)
		waits, v := waitsOf(t, c), judged(t, c)
		if (len(v.Ranks) == 0) == (len(v.Round) == 0) {
			t.Fatalf("%s: %v and %v", src, v.Ranks, v.Round)
		}
		for _, w := range waits {
			if len(v.Ranks) > 0 && v.Ranks[w.From] >= v.Ranks[w.To] {
				t.Fatalf("%s: %v does not rise: %v", src, w, v.Ranks)
			}
		}
		for k, w := range v.Round {
			next := v.Round[(k+1)%len(v.Round)]
			first := slices.IndexFunc(waits, func(o api.Wait) bool { return o.From == w.From && o.To == w.To })
			if w.To != next.From || waits[first] != w || w.From < v.Round[0].From {
				t.Fatalf("%s: %s is no round", src, told(v.Round))
			}
		}
	}
}
