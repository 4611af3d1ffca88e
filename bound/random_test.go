package bound

import (
	"fmt"
	"math"
	"math/rand"
	"slices"
	"strings"
	"testing"

	"pipewright/api"
)

// writer makes code that may be run, as it comes.
type writer struct {
	*rand.Rand
	c     api.Code
	bases []string // what goes through most of its channels
}

func pick[T any](w *writer, all []T) T { return all[w.Intn(len(all))] }

// vars are such as fit one another: the ends of some channels, more than once,
// and what goes through them.
func (w *writer) vars() []api.Var {
	var all []api.Var
	add := func(types ...string) {
		for _, t := range types {
			all = append(all, api.Var{T: t})
		}
	}
	for range 1 + w.Intn(3) {
		of := pick(w, w.bases)
		add("s"+of, "r"+of, of)
		if w.Intn(2) == 0 {
			add("s"+of, "r"+of, of)
		}
		if len(of) > 1 && w.Intn(2) == 0 {
			add("s"+of[1:], "r"+of[1:])
		}
	}
	w.Shuffle(len(all), func(i, k int) { all[i], all[k] = all[k], all[i] })
	return all
}

// blocks are of all kinds, mostly one within the last one. What a block's kind
// does not ask for may be anything.
func (w *writer) blocks(p api.Proc, most int) []api.Block {
	all := []api.Block{{Kind: api.BlockBody, Parent: w.Intn(5) - 2, A: w.Intn(5) - 2, N: w.Intn(3)}}
	for range w.Intn(most) {
		b := api.Block{Kind: 2 + w.Intn(4), Parent: w.Intn(len(all)), A: w.Intn(len(p.Vars)), N: w.Intn(api.MaxTurns + 1)}
		if w.Intn(3) > 0 {
			b.Parent = len(all) - 1
		}
		if b.N == 0 && w.Intn(3) > 0 {
			b.N = 1
		}
		if b.Kind == api.BlockFor && p.Vars[b.A].T[0] != 'r' {
			b.Kind = api.BlockThen
		}
		all = append(all, b)
	}
	return all
}

// some is the number of a variable of a type, or -1.
func (w *writer) some(p api.Proc, of string) int {
	for _, v := range w.Perm(len(p.Vars)) {
		if p.Vars[v].T == of {
			return v
		}
	}
	return -1
}

// ins makes one instruction, if there is such a one; at most so many are there.
func (w *writer) ins(p api.Proc, most int) (api.Ins, bool) {
	v := w.Intn(len(p.Vars))
	of := p.Vars[v].T
	ins := api.Ins{Op: pick(w, busy), A: v, To: w.Intn(most), E: one(), Block: w.Intn(len(p.Blocks))}
	if w.Intn(4) == 0 {
		ins.Loop = w.Intn(len(p.Blocks))
	}
	switch ins.Op {
	case api.InChan:
		ins.T, ins.N = strings.TrimPrefix(of, "s"), 1+w.Intn(api.MaxSlots)
		ins.B = w.some(p, "r"+ins.T)
		return ins, of[0] == 's' && ins.B >= 0
	case api.InClone:
		ins.B = w.some(p, of)
		return ins, of[0] == 's' && ins.B != v
	case api.InGive:
		ins.A, ins.B = w.some(p, "s"+of), v
		return ins, of != "i" && ins.A >= 0
	case api.InTake:
		ins.B = w.some(p, "r"+of)
		return ins, ins.B >= 0
	case api.InSpawn:
		return w.spawn(p, ins)
	case api.InSend:
		return ins, of == "si"
	case api.InClose:
		return ins, of[0] == 's'
	case api.InAbandon, api.InDrain:
		return ins, of[0] == 'r'
	case api.InOver:
		return ins, of != "i"
	case api.InLet, api.InTurns, api.InCount:
		return ins, of == "i"
	}
	return ins, true
}

// busy are the Ops, those more often that E and N hang on.
var busy = []int{
	api.InChan, api.InChan, api.InChan, api.InClone, api.InGive, api.InGive, api.InGive, api.InTake, api.InTake, api.InTake,
	api.InSpawn, api.InSpawn, api.InSpawn, api.InSpawn, api.InSend, api.InSend, api.InSend, api.InSend, api.InDrain, api.InDrain,
	api.InClose, api.InAbandon, api.InOver, api.InLet, api.InTurns, api.InCount, api.InEmit, api.InIf, api.InJump, api.InExit,
}

func (w *writer) spawn(p api.Proc, ins api.Ins) (api.Ins, bool) {
	if len(w.c.Procs) == 0 {
		return ins, false
	}
	ins.A = w.Intn(len(w.c.Procs))
	stage := w.c.Procs[ins.A]
	for _, param := range stage.Vars[:stage.Params] {
		arg := api.Arg{V: w.some(p, param.T)}
		if param.T == "i" {
			arg = api.Arg{E: one(), V: w.Intn(len(p.Vars)+2) - 1}
		} else if arg.V < 0 {
			return ins, false
		}
		ins.Args = append(ins.Args, arg)
	}
	return ins, true
}

// proc has at least one variable. Main's first one is its parameter.
func (w *writer) proc(main bool, most, blocks int) api.Proc {
	p := api.Proc{Vars: w.vars(), Params: w.Intn(4)}
	if main {
		p.Vars, p.Params = append([]api.Var{{T: "ri"}}, p.Vars...), 1
	}
	p.Blocks = w.blocks(p, blocks)
	spawns := w.Intn(6)
	for len(p.Ins) < most-1 {
		ins, is := w.ins(p, most)
		if ins.Op == api.InSpawn && is {
			spawns--
			is = spawns > 0
		}
		if is {
			p.Ins = append(p.Ins, ins)
		}
	}
	p.Ins = append(p.Ins, api.Ins{Op: pick(w, []int{api.InExit, api.InJump})})
	return p
}

// code has some stages, Main not always the last one, of at most so many
// instructions, and blocks.
func (w *writer) code(most, blocks int) api.Code {
	w.c, w.bases = api.Code{}, nil
	for range 1 + w.Intn(3) {
		w.bases = append(w.bases, pick(w, allTypes[:7]))
	}
	n := 1 + w.Intn(5)
	main := max(w.Intn(n), w.Intn(n))
	for k := range n {
		p := w.proc(k == main, 1+w.Intn(most), blocks)
		w.c.Procs = append(w.c.Procs, p)
	}
	w.c.Main = main
	return w.c
}

func someCodes(seed int64, n, most, blocks int) []api.Code {
	w := &writer{Rand: rand.New(rand.NewSource(seed))}
	var all []api.Code
	for range n {
		all = append(all, w.code(most, blocks))
	}
	return all
}

// manyInputs are numbers that may come in, few and many, around Cap and its
// parts, too.
var manyInputs = []int{0, 1, 2, 3, 7, 1000, 1 << 20, api.Cap / 36, api.Cap / 6, api.Cap/6 + 1, api.Cap / 2, api.Cap/2 + 1, api.Cap - 1, api.Cap, api.Cap + 1, math.MaxInt64}

// seenOf counts what code is like, as the chapter's words go over it.
func seenOf(c api.Code, inputs int, seen map[string]int) {
	slowAnswersBy(c, inputs, func(b *slowBook) {
		b.goOver(len(b.cells) + 1)
		first := slices.Clone(b.now)
		round := slices.Contains(b.capped, true)
		b.goOver(len(b.cells) + 1)
		for k, now := range b.now {
			switch {
			case now == api.Cap && first[k] < api.Cap:
				seen["Cap by the second"]++
			case b.capped[k]:
				seen["Cap by the first"]++
			case now == api.Cap && !round:
				seen["Cap by what comes in"]++
			case now == api.Cap:
				seen["Cap as it goes"]++
			case now > 1 && k > b.site(0):
				seen["some go through"]++
			case now == 0:
				seen["none"]++
			}
		}
		if round {
			seen["a round"]++
		} else {
			seen["no round"]++
		}
		seen["tasks "+fmt.Sprint(min(len(b.g.Tasks), 4))]++
		seen["channels "+fmt.Sprint(min(len(b.g.Sites), 6))]++
	})
}

func wantSeen(t *testing.T, seen map[string]int, least int, all ...string) {
	t.Helper()
	for _, what := range all {
		if seen[what] < least {
			t.Errorf("%s: %d, too few: %v", what, seen[what], seen)
		}
	}
}

// P12: codes as they come, against the chapter's words.
func TestSomeCodesAgainstTheSecondWay(t *testing.T) {
	seen := map[string]int{}
	all := append(someCodes(71, 6000, 12, 4), someCodes(72, 4000, 30, 10)...)
	for k, c := range append(all, someCodes(73, 600, 80, 40)...) {
		for n := range 2 {
			inputs := manyInputs[(k+7*n)%len(manyInputs)]
			if wantSecond(t, c, inputs).noSteps.Code != 0 {
				seen["a fault"]++
				continue
			}
			seenOf(c, inputs, seen)
		}
	}
	wantSeen(t, seen, 100, "a fault", "Cap by the second", "Cap by the first", "Cap by what comes in", "Cap as it goes", "some go through", "none", "a round", "no round",
		"tasks 1", "tasks 2", "tasks 3", "tasks 4", "channels 1", "channels 2", "channels 3", "channels 4", "channels 5", "channels 6")
}

// P12: code of one task and two channels, all ways of blocks and of where is
// sent, against the chapter's words.
func TestAllChoicesAgainstTheSecondWay(t *testing.T) {
	seen := map[string]int{}
	ofThird := []string{"then 0", "then 1", "for 1 2", "for 0 4", "repeat 2 0", "repeat 1 3", "else 2", "for 1 0"}
	for _, first := range []string{"for 0 0", "for 0 2", "repeat 0 2", "then 0"} {
		for _, second := range []string{"for 1 4", "for 0 2", "repeat 1 6", "else 1", "repeat 0 0"} {
			for _, third := range ofThird {
				for at := range 4 * 4 * 4 {
					blocks := first + ";" + second + ";" + third
					sends := fmt.Sprintf("send 1 @%d; send 3 @%d; send 3 @%d", at%4, at/4%4, at/16)
					c := code(proc("ri si ri si ri", 1, blocks, "chan 1 2; chan 3 4;"+sends+"; drain 4 @1; drain 0 @2 %3"))
					for _, inputs := range []int{0, 2, api.Cap / 2} {
						wantSecond(t, c, inputs)
						seenOf(c, inputs, seen)
					}
				}
			}
		}
	}
	wantSeen(t, seen, 500, "Cap by the second", "Cap by the first", "Cap by what comes in", "some go through", "none", "a round", "no round")
}

// P1
func FuzzBound(f *testing.F) {
	for i := range int64(30) {
		f.Add(i, uint8(i), uint8(i), int(i)<<i)
	}
	f.Fuzz(func(t *testing.T, seed int64, most, blocks uint8, inputs int) {
		w := &writer{Rand: rand.New(rand.NewSource(seed))}
		wantSecond(t, w.code(1+int(most), 1+int(blocks)), inputs)
	})
}
