package tree

import (
	"fmt"
	"math/rand"
	"slices"
	"strings"
	"testing"

	"pipewright/api"
	"pipewright/lower"
)

// writer makes code that may be run, as it comes.
type writer struct {
	*rand.Rand
	c     api.Code
	bases []string // what goes through most of its channels
}

func pick[T any](w *writer, all []T) T { return all[w.Intn(len(all))] }

// vars are such as fit one another: the ends of some channels, more than once,
// and what goes through them.
func (w *writer) vars() []api.Var {
	var all []api.Var
	add := func(types ...string) {
		for _, t := range types {
			all = append(all, api.Var{T: t})
		}
	}
	for range 1 + w.Intn(3) {
		of := pick(w, w.bases)
		add("s"+of, "r"+of, of)
		if w.Intn(2) == 0 {
			add("s"+of, "r"+of, of)
		}
		if len(of) > 1 && w.Intn(2) == 0 {
			add("s"+of[1:], "r"+of[1:])
		}
	}
	w.Shuffle(len(all), func(i, k int) { all[i], all[k] = all[k], all[i] })
	return all
}

// some is the number of a variable of a type, or -1.
func (w *writer) some(p api.Proc, of string) int {
	for _, v := range w.Perm(len(p.Vars)) {
		if p.Vars[v].T == of {
			return v
		}
	}
	return -1
}

// ins makes one instruction, if there is such a one; at most so many are there.
func (w *writer) ins(p api.Proc, most int) (api.Ins, bool) {
	v := w.Intn(len(p.Vars))
	of := p.Vars[v].T
	ins := api.Ins{Op: pick(w, busy), A: v, To: w.Intn(most), E: one()}
	switch ins.Op {
	case api.InChan:
		ins.T, ins.N = strings.TrimPrefix(of, "s"), 1+w.Intn(api.MaxSlots)
		ins.B = w.some(p, "r"+ins.T)
		return ins, of[0] == 's' && ins.B >= 0
	case api.InClone:
		ins.B = w.some(p, of)
		return ins, of[0] == 's' && ins.B != v
	case api.InGive:
		ins.A, ins.B = w.some(p, "s"+of), v
		return ins, of != "i" && ins.A >= 0
	case api.InTake:
		ins.B = w.some(p, "r"+of)
		return ins, ins.B >= 0
	case api.InSpawn:
		return w.spawn(p)
	case api.InSend:
		return ins, of == "si"
	case api.InClose:
		return ins, of[0] == 's'
	case api.InAbandon, api.InDrain:
		return ins, of[0] == 'r'
	case api.InOver:
		return ins, of != "i"
	case api.InLet, api.InTurns, api.InCount:
		return ins, of == "i"
	}
	return ins, true
}

// busy are the Ops, those more often that the lists hang on.
var busy = []int{
	api.InChan, api.InChan, api.InChan, api.InClone, api.InClone, api.InGive, api.InGive, api.InGive, api.InGive,
	api.InTake, api.InTake, api.InTake, api.InTake, api.InSpawn, api.InSpawn, api.InSpawn, api.InSpawn, api.InSend, api.InClose, api.InAbandon, api.InDrain,
	api.InOver, api.InLet, api.InTurns, api.InCount, api.InEmit, api.InIf, api.InJump, api.InExit,
}

func (w *writer) spawn(p api.Proc) (api.Ins, bool) {
	ins := api.Ins{Op: api.InSpawn}
	if len(w.c.Procs) == 0 {
		return ins, false
	}
	ins.A = w.Intn(len(w.c.Procs))
	stage := w.c.Procs[ins.A]
	for _, param := range stage.Vars[:stage.Params] {
		arg := api.Arg{V: w.some(p, param.T)}
		if param.T == "i" {
			arg = api.Arg{E: one(), V: w.Intn(len(p.Vars)+2) - 1}
		} else if arg.V < 0 {
			return ins, false
		}
		ins.Args = append(ins.Args, arg)
	}
	return ins, true
}

// proc has at least one variable. Main's first one is its parameter.
func (w *writer) proc(main bool, most int) api.Proc {
	p := api.Proc{Vars: w.vars(), Blocks: []api.Block{{Kind: api.BlockBody}}}
	p.Params = w.Intn(4)
	if main {
		p.Vars, p.Params = append([]api.Var{{T: "ri"}}, p.Vars...), 1
	}
	spawns := w.Intn(6)
	for len(p.Ins) < most-1 {
		ins, is := w.ins(p, most)
		if ins.Op == api.InSpawn && is {
			spawns--
			is = spawns > 0
		}
		if is {
			p.Ins = append(p.Ins, ins)
		}
	}
	p.Ins = append(p.Ins, api.Ins{Op: pick(w, []int{api.InExit, api.InJump})})
	return p
}

// code has some stages, Main not always the last one, of at most so many
// instructions.
func (w *writer) code(most int) api.Code {
	w.c, w.bases = api.Code{}, nil
	for range 1 + w.Intn(3) {
		w.bases = append(w.bases, pick(w, allTypes[:7]))
	}
	n := 1 + w.Intn(5)
	main := max(w.Intn(n), w.Intn(n))
	for k := range n {
		p := w.proc(k == main, 1+w.Intn(most))
		w.c.Procs = append(w.c.Procs, p)
	}
	w.c.Main = main
	return w.c
}

func someCodes(seed int64, n, most int) []api.Code {
	w := &writer{Rand: rand.New(rand.NewSource(seed))}
	var all []api.Code
	for range n {
		all = append(all, w.code(most))
	}
	return all
}

// P9: codes as they come, against the second way.
func TestSomeCodesAgainstTheSecondWay(t *testing.T) {
	seen := map[string]int{}
	for _, c := range append(someCodes(41, 6000, 30), someCodes(44, 4000, 80)...) {
		if f := lower.Check(c); f.Code != 0 {
			t.Fatalf("%s may not be run: %v", said(c), f)
		}
		g, f := wantSecond(t, c)
		if f.Code != 0 {
			seen["many"]++
			continue
		}
		seen["few"]++
		seen["tasks "+fmt.Sprint(min(len(g.Tasks), 8))]++
		seen["channels "+fmt.Sprint(min(len(g.Sites), 12))]++
		for k := range g.Tasks {
			for _, list := range g.May[k] {
				seen["long "+fmt.Sprint(min(len(list), 6))]++
			}
		}
	}
	for _, what := range []string{"many", "few", "tasks 1", "tasks 2", "tasks 8", "channels 1", "channels 12", "long 0", "long 1", "long 2", "long 4", "long 6"} {
		if seen[what] < 100 {
			t.Errorf("%s: %d, too few: %v", what, seen[what], seen)
		}
	}
}

// P9: all choices out of some lines, in an order that changes, against the
// second way: each rule with each other one, there and away.
func TestAllChoicesAgainstTheSecondWay(t *testing.T) {
	below := proc("rri sri ri", 2, "take 2 0; give 1 2")
	for _, c := range []struct{ types, said string }{
		{"ri sri rri sri rri ri ri", "chan 1 2; chan 3 4; clone 3 1; clone 1 3; give 1 0; give 3 5; take 5 2; take 6 4; give 1 6; spawn 0 2 3; spawn 0 4 1"},
		{"ri srri rrri sri rri rri ri", "chan 1 2; chan 3 4; chan 3 5; give 3 0; give 1 4; give 1 5; take 5 2; take 4 2; take 6 5; spawn 0 5 3; give 3 6"},
		{"ri ssri rsri sri rri sri ri", "chan 1 2; chan 3 4; chan 5 4; give 1 3; give 1 5; clone 5 3; take 5 2; give 5 0; take 6 4; spawn 0 4 5; take 0 4"},
	} {
		lines := strings.Split(c.said, ";")
		for set := range 1 << len(lines) {
			var some []string
			for k := range lines {
				if at := (5*k + set) % len(lines); set>>at&1 == 1 {
					some = append(some, lines[at])
				}
			}
			if _, f := wantSecond(t, code(below, proc(c.types, 1, strings.Join(some, ";")))); f.Code != 0 {
				t.Fatal(some, f)
			}
		}
	}
}

// lists are a May as bits: task by task, variable by variable.
type lists [][]uint

func listsOf(g api.Tree) lists {
	var all lists
	for _, may := range g.May {
		row := make([]uint, len(may))
		for v, list := range may {
			for _, site := range list {
				row[v] |= 1 << site
			}
		}
		all = append(all, row)
	}
	return all
}

// holds asks whether lists are as the rules ask, least or not.
func (l lists) holds(c api.Code, g api.Tree) bool {
	through := make([]uint, len(g.Sites))
	each := func(do func(k, i int, ins api.Ins) bool) bool {
		for k, node := range g.Tasks {
			for i, ins := range c.Procs[node.Stage].Ins {
				if !do(k, i, ins) {
					return false
				}
			}
		}
		return true
	}
	each(func(k, i int, ins api.Ins) bool {
		for site := range through {
			if ins.Op == api.InGive && l[k][ins.A]>>site&1 == 1 {
				through[site] |= l[k][ins.B]
			}
		}
		return true
	})
	within := func(a, b uint) bool { return a&^b == 0 }
	return within(1, l[0][0]) && each(func(k, i int, ins api.Ins) bool {
		switch ins.Op {
		case api.InChan:
			site := slices.IndexFunc(g.Sites, func(s api.Site) bool { return s.Task == k && s.At == i })
			return within(1<<site, l[k][ins.A]) && within(1<<site, l[k][ins.B])
		case api.InClone:
			return within(l[k][ins.B], l[k][ins.A])
		case api.InTake:
			for site := range through {
				if l[k][ins.B]>>site&1 == 1 && !within(through[site], l[k][ins.A]) {
					return false
				}
			}
		case api.InSpawn:
			child := slices.IndexFunc(g.Tasks, func(n api.Node) bool { return n.Parent == k && n.At == i })
			for n, arg := range ins.Args {
				if len(arg.E) == 0 && !within(l[k][arg.V], l[child][n]) {
					return false
				}
			}
		}
		return true
	})
}

// least is what all lists have in common that hold; all that there are are gone
// through.
func least(c api.Code, g api.Tree, bits int) lists {
	var spots [][2]int
	common := listsOf(g)
	for k := range common {
		for v := range common[k] {
			spots = append(spots, [2]int{k, v})
			common[k][v] = 1<<len(g.Sites) - 1
		}
	}
	for n := range uint(1) << bits {
		tried := listsOf(g)
		rest := n
		for _, at := range spots {
			tried[at[0]][at[1]] = rest & (1<<len(g.Sites) - 1)
			rest >>= len(g.Sites)
		}
		if !tried.holds(c, g) {
			continue
		}
		for _, at := range spots {
			common[at[0]][at[1]] &= tried[at[0]][at[1]]
		}
	}
	return common
}

// wantLeast holds the lists of a code against all lists that there are, if they
// are not too many; it gives how many of a code's variables may be of several
// channels, and false where they are too many.
func wantLeast(t *testing.T, c api.Code) (int, bool) {
	t.Helper()
	g, f := Grow(c)
	bits, several := 0, 0
	for _, may := range g.May {
		bits += len(may) * len(g.Sites)
		for _, list := range may {
			if len(list) > 1 {
				several++
			}
		}
	}
	if f.Code != 0 || bits > 15 {
		return 0, false
	}
	want := least(c, g, bits)
	if got := listsOf(g); fmt.Sprint(got) != fmt.Sprint(want) || !got.holds(c, g) {
		t.Fatalf("lists of %s: %s, want %v", said(c), toldMay(g), want)
	}
	return several, true
}

// P9: the lists are the least that the rules ask for.
func TestMayIsTheLeast(t *testing.T) {
	tried, several := 0, 0
	for _, c := range someCodes(42, 30000, 8) {
		if len(slowSites(c, slowTasks(c))) < 2 {
			continue
		}
		if n, is := wantLeast(t, c); is {
			several += n
			tried++
		}
	}
	if tried < 200 || several < 30 {
		t.Errorf("%d codes are too few, or %d of several channels", tried, several)
	}
}

// P9: the same, of all choices out of some lines, with a task that takes.
func TestMayIsTheLeastOfAllChoices(t *testing.T) {
	for _, said := range []string{
		"chan 1 2; give 1 0; give 1 3; take 3 2; take 0 2; spawn 0 2; spawn 0 2",
		"chan 1 2; chan 1 2; give 1 0; give 1 3; take 3 2; take 0 2",
	} {
		lines := strings.Split(said, ";")
		tried := 0
		for set := range 1 << len(lines) {
			var some []string
			for k, line := range lines {
				if set>>k&1 == 1 {
					some = append(some, line)
				}
			}
			c := code(proc("rri ri", 1, "take 1 0"), proc("ri sri rri ri", 1, strings.Join(some, ";")))
			if _, is := wantLeast(t, c); is {
				tried++
			}
		}
		if tried < 48 {
			t.Errorf("%d codes are too few", tried)
		}
	}
}

// P9: greater ones hold, too.
func TestMayHolds(t *testing.T) {
	for _, c := range someCodes(43, 2000, 120) {
		g, f := Grow(c)
		if f.Code == 0 && !listsOf(g).holds(c, g) {
			t.Fatalf("lists of %s do not hold: %s", said(c), toldMay(g))
		}
	}
}

// P1
func FuzzGrow(f *testing.F) {
	for i := range int64(30) {
		f.Add(i, uint8(i))
	}
	f.Fuzz(func(t *testing.T, seed int64, most uint8) {
		w := &writer{Rand: rand.New(rand.NewSource(seed))}
		wantSecond(t, w.code(1+int(most)))
	})
}
