package order

import (
	"fmt"
	"math/rand"
	"slices"
	"strings"
	"testing"

	"pipewright/api"
)

// writer makes code that may be run, as it comes.
type writer struct {
	*rand.Rand
	c     api.Code
	bases []string // what goes through most of its channels
}

func pick[T any](w *writer, all []T) T { return all[w.Intn(len(all))] }

// vars are such as fit one another: the ends of some channels, more than once,
// and what goes through them.
func (w *writer) vars() []api.Var {
	var all []api.Var
	add := func(types ...string) {
		for _, t := range types {
			all = append(all, api.Var{T: t})
		}
	}
	for range 1 + w.Intn(3) {
		of := pick(w, w.bases)
		add("s"+of, "r"+of, of)
		if w.Intn(2) == 0 {
			add("s"+of, "r"+of, of)
		}
		if len(of) > 1 && w.Intn(2) == 0 {
			add("s"+of[1:], "r"+of[1:])
		}
	}
	w.Shuffle(len(all), func(i, k int) { all[i], all[k] = all[k], all[i] })
	return all
}

// some is the number of a variable of a type, or -1.
func (w *writer) some(p api.Proc, of string) int {
	for _, v := range w.Perm(len(p.Vars)) {
		if p.Vars[v].T == of {
			return v
		}
	}
	return -1
}

// ins makes one instruction, if there is such a one; at most so many are there.
func (w *writer) ins(p api.Proc, most int) (api.Ins, bool) {
	v := w.Intn(len(p.Vars))
	of := p.Vars[v].T
	ins := api.Ins{Op: pick(w, busy), A: v, To: w.Intn(most), E: one()}
	switch ins.Op {
	case api.InChan:
		ins.T, ins.N = strings.TrimPrefix(of, "s"), 1+w.Intn(api.MaxSlots)
		ins.B = w.some(p, "r"+ins.T)
		return ins, of[0] == 's' && ins.B >= 0
	case api.InClone:
		ins.B = w.some(p, of)
		return ins, of[0] == 's' && ins.B != v
	case api.InGive:
		ins.A, ins.B = w.some(p, "s"+of), v
		return ins, of != "i" && ins.A >= 0
	case api.InTake:
		ins.B = w.some(p, "r"+of)
		return ins, ins.B >= 0
	case api.InSpawn:
		return w.spawn(p)
	case api.InSend:
		return ins, of == "si"
	case api.InClose:
		return ins, of[0] == 's'
	case api.InAbandon, api.InDrain:
		return ins, of[0] == 'r'
	case api.InOver:
		return ins, of != "i"
	case api.InLet, api.InTurns, api.InCount:
		return ins, of == "i"
	case api.InJump, api.InExit:
		return ins, w.Intn(8) == 0
	}
	return ins, true
}

// busy are the Ops, those more often that waits hang on, and seldom such as keep
// from what stands behind.
var busy = []int{
	api.InChan, api.InChan, api.InChan, api.InChan, api.InClone, api.InGive, api.InGive, api.InGive, api.InTake, api.InTake, api.InTake, api.InTake,
	api.InSpawn, api.InSpawn, api.InSpawn, api.InSpawn, api.InSend, api.InSend, api.InSend, api.InSend, api.InDrain, api.InDrain, api.InDrain, api.InDrain,
	api.InClose, api.InClose, api.InClose, api.InClose, api.InClose, api.InClose, api.InAbandon, api.InAbandon, api.InAbandon, api.InAbandon, api.InAbandon, api.InAbandon,
	api.InOver, api.InLet, api.InTurns, api.InCount, api.InEmit, api.InIf, api.InJump, api.InExit,
}

func (w *writer) spawn(p api.Proc) (api.Ins, bool) {
	ins := api.Ins{Op: api.InSpawn}
	if len(w.c.Procs) == 0 {
		return ins, false
	}
	ins.A = w.Intn(len(w.c.Procs))
	stage := w.c.Procs[ins.A]
	for _, param := range stage.Vars[:stage.Params] {
		arg := api.Arg{V: w.some(p, param.T)}
		if param.T == "i" {
			arg = api.Arg{E: one(), V: w.Intn(len(p.Vars)+2) - 1}
		} else if arg.V < 0 {
			return ins, false
		}
		ins.Args = append(ins.Args, arg)
	}
	return ins, true
}

// proc has at least one variable. Main's first one is its parameter.
func (w *writer) proc(main bool, most int) api.Proc {
	p := api.Proc{Vars: w.vars(), Blocks: []api.Block{{Kind: api.BlockBody}}}
	p.Params = w.Intn(4)
	if main {
		p.Vars, p.Params = append([]api.Var{{T: "ri"}}, p.Vars...), 1
	}
	spawns := w.Intn(6)
	for len(p.Ins) < most-1 {
		ins, is := w.ins(p, most)
		if ins.Op == api.InSpawn && is {
			spawns--
			is = spawns > 0
		}
		if is {
			p.Ins = append(p.Ins, ins)
		}
	}
	p.Ins = append(p.Ins, api.Ins{Op: pick(w, []int{api.InExit, api.InJump})})
	return p
}

// code has some stages, Main not always the last one, of at most so many
// instructions.
func (w *writer) code(most int) api.Code {
	w.c, w.bases = api.Code{}, nil
	for range 1 + w.Intn(3) {
		w.bases = append(w.bases, pick(w, allTypes[:7]))
	}
	n := 1 + w.Intn(5)
	main := max(w.Intn(n), w.Intn(n))
	for k := range n {
		p := w.proc(k == main, 1+w.Intn(most))
		w.c.Procs = append(w.c.Procs, p)
	}
	w.c.Main = main
	return w.c
}

func someCodes(seed int64, n, most int) []api.Code {
	w := &writer{Rand: rand.New(rand.NewSource(seed))}
	var all []api.Code
	for range n {
		all = append(all, w.code(most))
	}
	return all
}

// seenOf counts what answers are like.
func (a answer) seenOf(seen map[string]int) {
	notes := hasNotes(a.verdict.Notes)
	switch {
	case a.no.Code != 0:
		seen["a fault"]++
		return
	case len(a.verdict.Round) > 0:
		seen["a round of "+fmt.Sprint(min(len(a.verdict.Round), 4))]++
	case len(a.waits) > 0:
		seen["ranks up to "+fmt.Sprint(min(slices.Max(a.verdict.Ranks), 3))]++
	default:
		seen["no waits"]++
	}
	if notes {
		seen["notes"]++
	}
	if a.narrow {
		seen["narrow"]++
	} else if Fine(a.verdict) {
		seen["fine"]++
	}
	if len(a.waits) > api.MaxEdges {
		seen["many waits"]++
	}
}

func wantSeen(t *testing.T, seen map[string]int, least int, all ...string) {
	t.Helper()
	for _, what := range all {
		if seen[what] < least {
			t.Errorf("%s: %d, too few: %v", what, seen[what], seen)
		}
	}
}

// P11: codes as they come, against the second way.
func TestSomeCodesAgainstTheSecondWay(t *testing.T) {
	seen := map[string]int{}
	for _, c := range append(someCodes(71, 6000, 12), someCodes(72, 3000, 30)...) {
		wantSecond(t, c).seenOf(seen)
	}
	for _, c := range someCodes(73, 300, 100) {
		wantSecond(t, c).seenOf(seen)
	}
	wantSeen(t, seen, 20, "a fault", "no waits", "ranks up to 1", "ranks up to 2", "a round of 1", "notes", "narrow")
}

// P11: all choices out of some lines, in an order that changes, against the
// second way.
func TestAllChoicesAgainstTheSecondWay(t *testing.T) {
	below := proc("ri si i", 2, "take 2 0 :3; send 1; jump :0; drain 0; close 1")
	seen := map[string]int{}
	for _, c := range []struct{ types, said string }{
		{"ri si ri si ri", "chan 1 2; chan 3 4; send 1; drain 2; send 3; close 1; abandon 4; drain 0; spawn 0 2 3; spawn 0 4 1; close 3"},
		{"ri sri rri si ri", "chan 1 2; give 1 0; take 0 2 :1; chan 3 4; give 1 4; take 4 2 :0; send 3; drain 0; close 1; spawn 0 4 3; spawn 0 0 3"},
		{"ri si ri si", "chan 1 2; clone 3 1; if :0; send 3; send 1; close 1; close 3; drain 2; abandon 0; chan 3 2; spawn 0 0 1"},
	} {
		lines := strings.Split(c.said, ";")
		for set := range 1 << len(lines) {
			var some []string
			for k := range lines {
				if at := (5*k + set) % len(lines); set>>at&1 == 1 {
					some = append(some, lines[at])
				}
			}
			main := proc(c.types, 1, strings.Join(some, ";"))
			for i := range main.Ins {
				main.Ins[i].To %= len(main.Ins)
			}
			wantSecond(t, code(below, main)).seenOf(seen)
		}
	}
	wantSeen(t, seen, 10, "no waits", "ranks up to 1", "ranks up to 2", "a round of 1", "a round of 2", "notes", "narrow", "fine")
}

// P1
func FuzzOrder(f *testing.F) {
	for i := range int64(30) {
		f.Add(i, uint8(i))
	}
	f.Fuzz(func(t *testing.T, seed int64, most uint8) {
		w := &writer{Rand: rand.New(rand.NewSource(seed))}
		wantSecond(t, w.code(1+int(most)))
	})
}
