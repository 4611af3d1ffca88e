package own

import (
	"fmt"
	"math/rand"
	"reflect"
	"slices"
	"sync"
	"testing"
	"unsafe"

	"pipewright/api"
)

// full has lists in all of its parts.
func full(r *rand.Rand, n int) api.Proc {
	p := someProc(r, n, 1+r.Intn(70))
	p.Name = "x"
	p.Blocks = []api.Block{{Kind: api.BlockBody}}
	for i := range p.Ins {
		p.Ins[i].E = []api.Push{{Op: api.PushNum, N: int64(i)}}
	}
	return p
}

func twin(p api.Proc) api.Proc {
	p.Vars, p.Blocks, p.Ins = slices.Clone(p.Vars), slices.Clone(p.Blocks), slices.Clone(p.Ins)
	for i := range p.Ins {
		ins := &p.Ins[i]
		ins.E, ins.Args = slices.Clone(ins.E), slices.Clone(ins.Args)
		for k := range ins.Args {
			ins.Args[k].E = slices.Clone(ins.Args[k].E)
		}
	}
	return p
}

// answers are all that is told of a Proc.
type answers struct {
	Acts   [][]api.Act
	States [][]int
	Notes  []api.Note
}

func ask(p api.Proc) answers {
	a := answers{States: States(p), Notes: Notes(p)}
	for i := -1; i <= len(p.Ins); i++ {
		a.Acts = append(a.Acts, Acts(p, i))
	}
	return a
}

// What holds everywhere: what is handed in is not changed.
func TestNothingChanges(t *testing.T) {
	r := rand.New(rand.NewSource(31))
	for k := range 300 {
		p := full(r, k%20)
		before := twin(p)
		if ask(p); !reflect.DeepEqual(p, before) {
			t.Fatalf("%s became %s", said(before), said(p))
		}
	}
}

// P1: what is answered hangs on the arguments alone: the same again, behind
// whatever else was asked, and while others ask.
func TestSameAgain(t *testing.T) {
	r := rand.New(rand.NewSource(32))
	for k := range 100 {
		p := full(r, k%20)
		want := fmt.Sprint(ask(p))
		ask(full(r, 9))
		q := twin(p)
		q.Name, q.Blocks = "other", nil
		if got := fmt.Sprint(ask(q)); got != want {
			t.Fatalf("%s: %s and then %s", said(p), short(want), short(got))
		}
		var all sync.WaitGroup
		for range 4 {
			all.Go(func() {
				if got := fmt.Sprint(ask(p)); got != want {
					t.Errorf("%s: %s and then %s", said(p), short(want), short(got))
				}
			})
		}
		all.Wait()
	}
}

// What holds everywhere: a list without elements is the same, nil or empty.
func TestNilAndEmpty(t *testing.T) {
	p := code("si ri", 2, "spawn 0; spawn; close 1; exit")
	want := fmt.Sprint(ask(p))
	for i := range p.Ins {
		p.Ins[i].E = []api.Push{}
		for k := range p.Ins[i].Args {
			p.Ins[i].Args[k].E = []api.Push{}
		}
	}
	p.Ins[1].Args = []api.Arg{}
	if got := fmt.Sprint(ask(p)); got != want {
		t.Errorf("%s, want %s", got, want)
	}
	for _, p := range []api.Proc{{}, {Vars: []api.Var{}, Ins: []api.Ins{}, Blocks: []api.Block{}}} {
		if a := ask(p); len(a.States) != 0 || len(a.Notes) != 0 || len(a.Acts[0]) != 0 {
			t.Errorf("%v of nothing", a)
		}
	}
}

// opened is a twin with what lies behind the lists, too.
func opened(p api.Proc) api.Proc {
	p.Vars, p.Ins = p.Vars[:cap(p.Vars)], slices.Clone(p.Ins[:cap(p.Ins)])
	for i := range p.Ins {
		ins := &p.Ins[i]
		ins.E, ins.Args = ins.E[:cap(ins.E)], slices.Clone(ins.Args[:cap(ins.Args)])
		for k := range ins.Args {
			ins.Args[k].E = ins.Args[k].E[:cap(ins.Args[k].E)]
		}
	}
	return twin(p)
}

// What holds everywhere: what lies behind a list's length is neither read nor
// written.
func TestBehindLists(t *testing.T) {
	r := rand.New(rand.NewSource(33))
	for k := range 300 {
		p := full(r, 4+k%16)
		for i := range p.Ins {
			args := p.Ins[i].Args
			for j, arg := range args {
				args[j].E = arg.E[:r.Intn(len(arg.E)+1)]
			}
			p.Ins[i].Args = args[:r.Intn(len(args)+1)]
		}
		p.Ins, p.Vars = p.Ins[:r.Intn(len(p.Ins)+1)], p.Vars[:r.Intn(len(p.Vars)+1)]
		before := opened(p)
		got, want := ask(p), ask(twin(p)) // behind a twin's lists lies nothing
		if fmt.Sprint(got) != fmt.Sprint(want) {
			t.Fatalf("%s: %s, want %s", said(p), shown(got), shown(want))
		}
		if !reflect.DeepEqual(opened(p), before) {
			t.Fatalf("%s was written to", said(p))
		}
	}
}

// What holds everywhere: an answer is new memory: it stays, whatever is done to
// other answers, up to their capacity, and to the Proc.
func TestAnswersOfTheirOwn(t *testing.T) {
	r := rand.New(rand.NewSource(34))
	for k := range 200 {
		p := full(r, 1+k%12)
		kept := ask(p)
		want := fmt.Sprint(kept)
		wiped := ask(p)
		clear(wiped.Notes[:cap(wiped.Notes)])
		for _, list := range wiped.Acts {
			clear(list[:cap(list)])
		}
		for _, list := range wiped.States {
			clear(list[:cap(list)])
		}
		clear(wiped.States[:cap(wiped.States)])
		again := ask(p)
		if fmt.Sprint(again) != want {
			t.Fatalf("%s: %s, and then %s", said(p), short(want), shown(again))
		}
		for i := range p.Ins {
			clear(p.Ins[i].Args)
		}
		clear(p.Ins)
		clear(p.Vars)
		if fmt.Sprint(kept) != want {
			t.Fatalf("%s became %s", short(want), shown(kept))
		}
		var all []span
		for _, a := range []answers{kept, again} {
			all = append(all, spanOf(a.Notes), spanOf(a.States))
			for _, list := range a.Acts {
				all = append(all, spanOf(list))
			}
			for _, list := range a.States {
				all = append(all, spanOf(list))
			}
		}
		wantApart(t, all)
	}
}

type span struct{ from, to uintptr }

// spanOf is the memory of a list, up to its capacity.
func spanOf[T any](list []T) span {
	var one T
	from := uintptr(unsafe.Pointer(unsafe.SliceData(list)))
	return span{from, from + uintptr(cap(list))*unsafe.Sizeof(one)}
}

// wantApart: no two of them share memory.
func wantApart(t *testing.T, all []span) {
	t.Helper()
	all = slices.DeleteFunc(all, func(s span) bool { return s.from == s.to })
	slices.SortFunc(all, func(a, b span) int { return int(a.from) - int(b.from) })
	for i := 1; i < len(all); i++ {
		if all[i-1].to > all[i].from {
			t.Fatalf("two lists share memory")
		}
	}
}
