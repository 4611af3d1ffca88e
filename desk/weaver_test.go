package desk

import (
	"fmt"
	"math/rand"
	"slices"
	"strings"
)

// parts are stages that get rid of all that they have: the types of what they
// are handed, as programs write them, and what they do with a, b, c, ..
var parts = []struct{ takes, does string }{
	{"recv int", "drain a;"},
	{"recv int", "for x from a { emit x; } drain a;"},
	{"recv int", "abandon a;"},
	{"send int", "repeat 5 { send a 1; } close a;"},
	{"send int", "close a;"},
	{"recv int, send int", "for x from a { send b x; } drain a; close b;"},
	{"recv int, send int", "for x from a { repeat 2 { send b x; } } drain a; close b;"},
	{"recv int, send int", "for x from a { repeat x { if x { send b x; } else { send b 0; send b x; } } } drain a; close b;"},
	{"recv int, send int", "drain a; close b;"},
	{"recv int, send int", "drain a; repeat 3 { repeat 2 { send b 1; } } close b;"},
	{"recv int, send int", "send b 1; close b; drain a;"},
	{"recv int, send int", "send b 1; abandon a; close b;"},
	{"recv int, send int", "repeat 4 { take x from a { send b x; } else { send b 0; } } abandon a; close b;"},
	{"recv int, send int", "if 1 { send b 1; } close b; repeat 2 { take x from a { } else { } } abandon a;"},
	{"recv int, recv int", "drain a; drain b;"},
	{"send int, send int", "send a 1; close a; send b 1; close b;"},
	{"recv int, send int, send int", "for x from a { send b x; send c x; } drain a; close b; close c;"},
	{"recv int, recv int, send int", "for x from a { send c x; } drain a; for y from b { send c y; } drain b; close c;"},
	{"recv int, recv int, send int", "for x from a { take y from b { send c x + y; } else { } } drain a; drain b; close c;"},
	{"send int", "clone z a; send a 1; close a; repeat 3 { send z 1; } close z;"},
	{"recv int, send int", "chan u v int 1; close u; drain v; drain a; close b;"},
	{"recv send int", "for s from a { send s 7; repeat 2 { send s 8; } close s; } drain a;"},
	{"recv send int", "drain a;"},
	{"send send int", "repeat 3 { chan s r int 1; send a s; for x from r { emit x; } drain r; } close a;"},
	{"send send int", "chan s r int 1; send a s; close a; drain r;"},
	{"recv recv int", "for s from a { for x from s { emit x; } drain s; } drain a;"},
	{"recv recv int", "for s from a { abandon s; } drain a;"},
	{"send recv int", "repeat 2 { chan s r int 1; send a r; send s 1; close s; } close a;"},
	{"send recv int", "chan s r int 1; send a r; close a; send s 1; close s;"},
	{"recv int, send recv int", "send b a; close b;"},
	{"send int, send send int", "send b a; close b;"},
	{"recv recv int, send recv int", "for s from a { send b s; } drain a; close b;"},
}

// weaver makes programs whose ends are used rightly, mostly.
type weaver struct{ *rand.Rand }

func (w weaver) of(all []string) string { return all[w.Intn(len(all))] }

// part writes one of them as a stage.
func (w weaver) part(name string, n int) string {
	var params []string
	for k, t := range strings.Split(parts[n].takes, ", ") {
		params = append(params, "abc"[k:k+1]+" "+t)
	}
	return fmt.Sprintf("stage %s(%s) { %s }\n", name, strings.Join(params, ", "), parts[n].does)
}

// fit takes ends of the types that a part asks for out of those that are there.
func (w weaver) fit(n int, ends map[string][]string) ([]string, bool) {
	left := map[string][]string{}
	for t, names := range ends {
		left[t] = slices.Clone(names)
	}
	var args []string
	for _, t := range strings.Split(parts[n].takes, ", ") {
		names := left[t]
		if len(names) == 0 {
			return nil, false
		}
		k := w.Intn(len(names))
		args = append(args, names[k])
		left[t] = slices.Delete(names, k, k+1)
	}
	clear(ends)
	for t, names := range left {
		if len(names) > 0 {
			ends[t] = names
		}
	}
	return args, true
}

// program has some channels, and tasks that share their ends out.
func (w weaver) program(chans int) string {
	ends := map[string][]string{"recv int": {"in"}}
	var lines []string
	for k := range chans {
		of := w.of([]string{"int", "int", "int", "int", "send int", "recv int"})
		lines = append(lines, fmt.Sprintf("chan s%d r%d %s %d;", k, k, of, 1+w.Intn(5)))
		ends["send "+of] = append(ends["send "+of], fmt.Sprint("s", k))
		ends["recv "+of] = append(ends["recv "+of], fmt.Sprint("r", k))
	}
	var stages []string
	names := map[int]string{}
	for len(ends) > 0 {
		n := w.Intn(len(parts))
		if len(names) == 8 && names[n] == "" {
			// There are enough stages: main gets rid of what is left.
			lines = append(lines, rest(ends)...)
			break
		}
		args, is := w.fit(n, ends)
		if !is {
			continue
		}
		if names[n] == "" {
			names[n] = fmt.Sprint("p", n)
			stages = append(stages, w.part(names[n], n))
		}
		lines = append(lines, fmt.Sprintf("spawn %s(%s);", names[n], strings.Join(args, ", ")))
	}
	return strings.Join(stages, "") + "stage main(in recv int) { " + strings.Join(lines, " ") + " }"
}

func rest(ends map[string][]string) []string {
	var lines []string
	for t, names := range ends {
		for _, name := range names {
			if strings.HasPrefix(t, "send") {
				lines = append(lines, "close "+name+";")
			} else {
				lines = append(lines, "drain "+name+";")
			}
		}
	}
	slices.Sort(lines) // what is to be closed ahead of what is to be drained
	return lines
}

func woven(seed int64, n int) []string {
	w := weaver{rand.New(rand.NewSource(seed))}
	var all []string
	for range n {
		all = append(all, w.program(w.Intn(9)))
	}
	return all
}
