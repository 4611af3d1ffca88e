package paths

import (
	"fmt"
	"math/rand"
	"reflect"
	"slices"
	"testing"
	"unsafe"

	"pipewright/api"
)

// full has lists in all of its parts.
func full(r *rand.Rand, n int) api.Proc {
	p := someProc(r, n)
	p.Name, p.Params = "x", 1
	p.Vars = []api.Var{{Name: "in", T: "ri"}}
	p.Blocks = []api.Block{{Kind: api.BlockBody}}
	for i := range p.Ins {
		p.Ins[i].E = []api.Push{{Op: api.PushNum, N: int64(i)}}
		p.Ins[i].Args = []api.Arg{{E: []api.Push{{Op: api.PushVar}}, V: i}}
	}
	return p
}

func twin(p api.Proc) api.Proc {
	p.Vars, p.Blocks, p.Ins = slices.Clone(p.Vars), slices.Clone(p.Blocks), slices.Clone(p.Ins)
	for i := range p.Ins {
		ins := &p.Ins[i]
		ins.E, ins.Args = slices.Clone(ins.E), slices.Clone(ins.Args)
		for k := range ins.Args {
			ins.Args[k].E = slices.Clone(ins.Args[k].E)
		}
	}
	return p
}

// answers are all lists that are told of a Proc, and what Is says.
func answers(p api.Proc, ways [][]int) ([][]int, []bool) {
	all := [][]int{Reach(p)}
	var is []bool
	for i := -1; i <= len(p.Ins); i++ {
		all = append(all, Next(p, i))
		for to := -1; to <= len(p.Ins); to++ {
			all = append(all, Path(p, i, to))
		}
	}
	for _, way := range ways {
		is = append(is, Is(p, way))
	}
	return all, is
}

// What holds everywhere: what is handed in is not changed.
func TestNothingChanges(t *testing.T) {
	r := rand.New(rand.NewSource(11))
	for k := range 200 {
		p := full(r, k%12)
		ways := [][]int{{0}, {0, 0}, {-1}, {3, 2, 1}, upTo(k % 12), {}}
		before, waysBefore := twin(p), fmt.Sprint(ways)
		answers(p, ways)
		if !reflect.DeepEqual(p, before) {
			t.Fatalf("%s became %s", said(before), said(p))
		}
		if fmt.Sprint(ways) != waysBefore {
			t.Fatalf("%s became %v", waysBefore, ways)
		}
	}
}

// P1: what is answered hangs on the arguments alone: the same again, behind
// whatever else was asked.
func TestSameAgain(t *testing.T) {
	r := rand.New(rand.NewSource(12))
	for k := range 200 {
		p := full(r, k%12)
		ways := [][]int{{0}, {0, 1}, {0, 0}, upTo(k % 12)}
		lists, is := answers(p, ways)
		answers(full(r, 9), ways)
		again, isAgain := answers(twin(p), ways)
		if !reflect.DeepEqual(lists, again) || !slices.Equal(is, isAgain) {
			t.Fatalf("%s: %s and then %s", said(p), shown(lists), shown(again))
		}
	}
}

// What holds everywhere: what lies behind a list's length is neither read nor
// written.
func TestBehindLists(t *testing.T) {
	r := rand.New(rand.NewSource(13))
	for k := range 200 {
		whole := full(r, 4+k%9)
		n := r.Intn(len(whole.Ins))
		cut := whole
		cut.Ins = whole.Ins[:n]
		own := twin(cut)
		own.Ins = slices.Clip(own.Ins)
		before := twin(whole)
		list := upTo(6)
		ways := [][]int{list[:0], list[:1], list[:2], list[1:3], list[2:5]}
		lists, is := answers(cut, ways)
		want, isWant := answers(own, [][]int{{}, {0}, {0, 1}, {1, 2}, {2, 3, 4}})
		if !reflect.DeepEqual(lists, want) || !slices.Equal(is, isWant) {
			t.Fatalf("%s: %s, want %s", said(cut), shown(lists), shown(want))
		}
		if !reflect.DeepEqual(whole, before) || !slices.Equal(list, upTo(6)) {
			t.Fatalf("%s was written to", said(whole))
		}
	}
	p := code("let let let")
	p.Ins = p.Ins[:2]
	wantNext(t, p, 1)
	wantReach(t, p, 0, 1)
	wantPath(t, p, 0, 2)
	wantIs(t, p, l(1, 2), false)
	wantIs(t, p, l(0, 1, 2)[:2], true)
}

// What holds everywhere: an answer is new memory: it stays, whatever is done to
// other answers, up to their capacity, and to the Proc.
func TestAnswersOfTheirOwn(t *testing.T) {
	r := rand.New(rand.NewSource(14))
	for k := range 200 {
		p := full(r, 1+k%12)
		lists, _ := answers(p, nil)
		want := fmt.Sprint(lists)
		wiped, _ := answers(p, nil)
		for _, list := range wiped {
			clear(list[:cap(list)])
		}
		again, _ := answers(p, nil)
		if fmt.Sprint(again) != want {
			t.Fatalf("%s: %s, and then %s", said(p), short(want), shown(again))
		}
		clear(p.Ins)
		if fmt.Sprint(lists) != want {
			t.Fatalf("%s became %s", short(want), shown(lists))
		}
		wantApart(t, append(append(lists, wiped...), again...))
	}
}

// wantApart: no two of the lists share memory, up to their capacity.
func wantApart(t *testing.T, lists [][]int) {
	t.Helper()
	type span struct{ from, to uintptr }
	var all []span
	for _, list := range lists {
		if cap(list) > 0 {
			from := uintptr(unsafe.Pointer(unsafe.SliceData(list)))
			all = append(all, span{from, from + uintptr(cap(list))*unsafe.Sizeof(0)})
		}
	}
	slices.SortFunc(all, func(a, b span) int { return int(a.from) - int(b.from) })
	for i := range all[1:] {
		if all[i].to > all[i+1].from {
			t.Fatalf("two lists share memory")
		}
	}
}
