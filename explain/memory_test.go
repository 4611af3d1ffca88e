package explain

import (
	"fmt"
	"math/rand"
	"reflect"
	"slices"
	"sync"
	"testing"
	"unsafe"

	"pipewright/api"
)

// full has lists in all of its parts.
func full(r *rand.Rand, n int) api.Proc {
	p := someProc(r, n, 1+r.Intn(4))
	p.Name = "x"
	p.Blocks = []api.Block{{Kind: api.BlockBody}}
	for i := range p.Ins {
		p.Ins[i].E = []api.Push{{Op: api.PushNum, N: int64(i)}}
	}
	return p
}

func twin(p api.Proc) api.Proc {
	p.Vars, p.Blocks, p.Ins = slices.Clone(p.Vars), slices.Clone(p.Blocks), slices.Clone(p.Ins)
	for i := range p.Ins {
		ins := &p.Ins[i]
		ins.E, ins.Args = slices.Clone(ins.E), slices.Clone(ins.Args)
		for k := range ins.Args {
			ins.Args[k].E = slices.Clone(ins.Args[k].E)
		}
	}
	return p
}

// answer is what is told of one note.
type answer struct {
	way   []int
	fault api.Fault
	holds []bool
}

// lists are asked of each note, beside what Why tells.
var lists = [][]int{nil, {}, {0}, {-1, 0}, {0, 1}, {-1, 0, 1}, {0, 1, 2}, {1, 2}, {1, 2, 3}, {-1, 0, 1, 2}, {2, 0, 2}}

func ask(p api.Proc) []answer {
	var all []answer
	eachNote(p, func(n api.Note) {
		var a answer
		a.way, a.fault = Why(p, n)
		for _, list := range append(slices.Clone(lists), a.way) {
			a.holds = append(a.holds, Holds(p, n, list))
		}
		all = append(all, a)
	})
	return all
}

// What holds everywhere: what is handed in is not changed.
func TestNothingChanges(t *testing.T) {
	r := rand.New(rand.NewSource(71))
	for k := range 200 {
		p := full(r, k%12)
		before := twin(p)
		given := fmt.Sprint(lists)
		if ask(p); !reflect.DeepEqual(p, before) {
			t.Fatalf("%s became %s", said(before), said(p))
		}
		if fmt.Sprint(lists) != given {
			t.Fatalf("%s became %v", given, lists)
		}
	}
}

// P1: what is answered hangs on the arguments alone: the same again, behind
// whatever else was asked, and while others ask.
func TestSameAgain(t *testing.T) {
	r := rand.New(rand.NewSource(72))
	for k := range 60 {
		p := full(r, k%12)
		want := fmt.Sprint(ask(p))
		ask(full(r, 6))
		q := twin(p)
		q.Name, q.Blocks = "other", nil
		if got := fmt.Sprint(ask(q)); got != want {
			t.Fatalf("%s: %s and then %s", said(p), short(want), short(got))
		}
		var all sync.WaitGroup
		for range 4 {
			all.Go(func() {
				if got := fmt.Sprint(ask(p)); got != want {
					t.Errorf("%s: %s and then %s", said(p), short(want), short(got))
				}
			})
		}
		all.Wait()
	}
}

// What holds everywhere: a list without elements is the same, nil or empty.
func TestNilAndEmpty(t *testing.T) {
	p := code("si ri", 2, "spawn 0; spawn; close 1; spawn 0 1; over 0; exit")
	want := fmt.Sprint(ask(p))
	for i := range p.Ins {
		p.Ins[i].E = []api.Push{}
		for k := range p.Ins[i].Args {
			p.Ins[i].Args[k].E = []api.Push{}
		}
	}
	p.Ins[1].Args, p.Blocks = []api.Arg{}, []api.Block{}
	if got := fmt.Sprint(ask(p)); got != want {
		t.Errorf("%s, want %s", short(got), short(want))
	}
	for _, p := range []api.Proc{{}, {Vars: []api.Var{}, Ins: []api.Ins{}, Blocks: []api.Block{}}} {
		eachNote(p, func(n api.Note) { refused(t, p, n) })
	}
}

// opened is a twin with what lies behind the lists, too.
func opened(p api.Proc) api.Proc {
	p.Vars, p.Ins = p.Vars[:cap(p.Vars)], slices.Clone(p.Ins[:cap(p.Ins)])
	for i := range p.Ins {
		ins := &p.Ins[i]
		ins.E, ins.Args = ins.E[:cap(ins.E)], slices.Clone(ins.Args[:cap(ins.Args)])
		for k := range ins.Args {
			ins.Args[k].E = ins.Args[k].E[:cap(ins.Args[k].E)]
		}
	}
	return twin(p)
}

// What holds everywhere: what lies behind a list's length is neither read nor
// written.
func TestBehindLists(t *testing.T) {
	r := rand.New(rand.NewSource(73))
	for k := range 200 {
		p := full(r, 4+k%8)
		for i := range p.Ins {
			args := p.Ins[i].Args
			for j, arg := range args {
				args[j].E = arg.E[:r.Intn(len(arg.E)+1)]
			}
			p.Ins[i].Args = args[:r.Intn(len(args)+1)]
		}
		p.Ins, p.Vars = p.Ins[:r.Intn(len(p.Ins)+1)], p.Vars[:r.Intn(len(p.Vars)+1)]
		before := opened(p)
		got, want := ask(p), ask(twin(p)) // behind a twin's lists lies nothing
		if fmt.Sprint(got) != fmt.Sprint(want) {
			t.Fatalf("%s: %s, want %s", said(p), shown(got), shown(want))
		}
		if !reflect.DeepEqual(opened(p), before) {
			t.Fatalf("%s was written to", said(p))
		}
	}
	p, n := code("si ri", 0, "chan 0 1; close 0; close 0; close 0"), goneAt(2, 0)
	way := l(0, 1, 2, 3, 3, 3)
	wantHolds(t, p, n, true, way[:3])
	wantHolds(t, p, n, false, way[:2], way[:1], way[:0], way[:4])
	if !slices.Equal(way, l(0, 1, 2, 3, 3, 3)) {
		t.Errorf("the list became %v", way)
	}
}

// What holds everywhere: an answer is new memory: it stays, whatever is done to
// other answers, up to their capacity, and to the Proc.
func TestAnswersOfTheirOwn(t *testing.T) {
	r := rand.New(rand.NewSource(74))
	for k := range 150 {
		p := full(r, 1+k%10)
		kept := ask(p)
		want := fmt.Sprint(kept)
		for _, a := range ask(p) {
			for i := range a.way[:cap(a.way)] {
				a.way[:cap(a.way)][i] = -7
			}
		}
		again := ask(p)
		if fmt.Sprint(again) != want {
			t.Fatalf("%s: %s, and then %s", said(p), short(want), shown(again))
		}
		for i := range p.Ins {
			clear(p.Ins[i].Args)
		}
		clear(p.Ins)
		clear(p.Vars)
		if fmt.Sprint(kept) != want {
			t.Fatalf("%s became %s", short(want), shown(kept))
		}
		var all []span
		for _, a := range append(kept, again...) {
			all = append(all, spanOf(a.way))
		}
		wantApart(t, all)
	}
}

// What holds everywhere: nothing that was asked is kept: a Proc and a list that
// are changed behind a call are asked anew.
func TestNothingIsKept(t *testing.T) {
	p, n := code("si ri", 0, "chan 0 1; close 0; let; close 0"), goneAt(3, 0)
	way := l(0, 1, 2, 3)
	wantWay(t, p, n, way...)
	p.Ins[1].Op = api.InLet
	wantNone(t, p, n)
	wantHolds(t, p, n, false, way)
	p.Ins[2] = api.Ins{Op: api.InOver}
	wantWay(t, p, n, way...)
	way[3] = 2
	wantHolds(t, p, n, false, way)
	p.Vars[0].T = "i"
	refused(t, p, n)
}

type span struct{ from, to uintptr }

// spanOf is the memory of a list, up to its capacity.
func spanOf[T any](list []T) span {
	var one T
	from := uintptr(unsafe.Pointer(unsafe.SliceData(list)))
	return span{from, from + uintptr(cap(list))*unsafe.Sizeof(one)}
}

// wantApart: no two of them share memory.
func wantApart(t *testing.T, all []span) {
	t.Helper()
	all = slices.DeleteFunc(all, func(s span) bool { return s.from == s.to })
	slices.SortFunc(all, func(a, b span) int { return int(a.from) - int(b.from) })
	for i := 1; i < len(all); i++ {
		if all[i-1].to > all[i].from {
			t.Fatalf("two lists share memory")
		}
	}
}
