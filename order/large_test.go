package order

import (
	"fmt"
	"slices"
	"testing"

	"pipewright/api"
)

// manyVars has so many of a type behind others.
func manyVars(p api.Proc, n int, of string) api.Proc {
	p.Vars = append(p.Vars, slices.Repeat([]api.Var{{T: of}}, n)...)
	return p
}

// filled lays instructions ahead of the last one, as many as there may be.
func filled(p api.Proc, do func(i int) api.Ins) api.Proc {
	last := p.Ins[len(p.Ins)-1]
	p.Ins = p.Ins[:len(p.Ins)-1]
	for i := 0; len(p.Ins) < api.MaxIns-1; i++ {
		p.Ins = append(p.Ins, do(i))
	}
	p.Ins = append(p.Ins, last)
	return p
}

// crowd has 30 tasks, each with as many parameters as there may be, half of
// them to send and half to receive, each of which may be of 29 channels, and as
// many instructions that wait as there may be.
func crowd() api.Code {
	const half = api.MaxIns
	below := manyVars(manyVars(proc("", 2*half, ""), half, "si"), half, "ri")
	below = filled(below, func(i int) api.Ins {
		if i%2 == 0 {
			return api.Ins{Op: api.InSend, A: i, E: one()}
		}
		return api.Ins{Op: api.InDrain, A: half + i}
	})
	main := proc("ri si ri", 1, rep("chan 1 2;", 29)+rep("spawn 0;", 29))
	for i := range main.Ins {
		ins := &main.Ins[i]
		if ins.Op != api.InSpawn {
			continue
		}
		for v := range 2 * half {
			ins.Args = append(ins.Args, api.Arg{V: 1 + v/half})
		}
	}
	return code(below, main)
}

// P1: more waits than could be told, judged all the same: what is first is told,
// in time.
func TestLargeCrowd(t *testing.T) {
	c := crowd()
	inTime(t, "a crowd", func() {
		v := judged(t, c)
		if len(v.Round) != 1 || v.Round[0] != (api.Wait{From: 2, To: 2, Task: 1, At: 0, Held: api.MaxIns, On: 0}) {
			t.Errorf("the round %s", told(v.Round))
		}
		if len(v.Notes) != 2 || len(v.Notes[0]) != 0 {
			t.Errorf("%d notes", len(v.Notes[0]))
		}
	})
	inTime(t, "a narrow crowd", func() { wantNarrow(t, c, false) })
}

// P1: the same, without a round: each task has what it receives from a lower
// channel, and waits to send through a higher one.
func TestLargeRanks(t *testing.T) {
	const most = 2*api.MaxIns - 1
	below := filled(manyVars(proc("si", 1+most, ""), most, "ri"), func(i int) api.Ins {
		return api.Ins{Op: api.InSend, A: 0, E: one()}
	})
	types, said := "ri", ""
	for k := range 29 {
		types += " si ri"
		said += fmt.Sprintf("chan %d %d;", 1+2*k, 2+2*k)
	}
	main := proc(types, 1, said+rep("spawn 0;", 28))
	for k := range 28 {
		ins := &main.Ins[29+k]
		ins.Args = append(ins.Args, api.Arg{V: 3 + 2*k})
		for range most {
			ins.Args = append(ins.Args, api.Arg{V: 2 + 2*k})
		}
	}
	c := code(below, main)
	want := make([]int, 60)
	for k := range 29 {
		want[2+2*k] = k
	}
	inTime(t, "ranks", func() { wantRanks(t, c, want...) })
}

// P1: as many stages as there may be, each as great as it may be, each with a
// task.
func TestLargeStages(t *testing.T) {
	const most = 2*api.MaxIns - 1
	c := api.Code{Main: 9}
	for k := range 10 {
		said, of := "", "si"
		if k == 9 {
			of = "ri"
		}
		p := manyVars(proc("ri", 1, said), most, of)
		if k < 9 {
			p.Params = 1 + most
		}
		p = filled(p, func(i int) api.Ins {
			if i%2 == 0 && k < 9 {
				return api.Ins{Op: api.InClose, A: 1 + i/2}
			}
			return api.Ins{Op: api.InDrain, A: 0}
		})
		c.Procs = append(c.Procs, p)
	}
	main := &c.Procs[9]
	main.Vars[1].T = "si"
	main.Ins[0] = api.Ins{Op: api.InChan, A: 1, B: 2, N: 1, T: "i"}
	for k := range 9 {
		ins := api.Ins{Op: api.InSpawn, A: k, Args: []api.Arg{{V: 0}}}
		for range most {
			ins.Args = append(ins.Args, api.Arg{V: 1})
		}
		main.Ins[1+k] = ins
	}
	inTime(t, "stages", func() {
		if v := judged(t, c); !slices.Equal(v.Ranks, []int{0, 1, 0, 0}) {
			t.Errorf("ranks %v", v.Ranks)
		}
	})
	inTime(t, "narrow stages", func() { wantNarrow(t, c, false) })
}

// P11.1: many waits, all of them told.
func TestLargeWaits(t *testing.T) {
	below := filled(proc("si ri ri", 3, ""), func(i int) api.Ins { return api.Ins{Op: api.InSend, A: 0, E: one()} })
	main := proc("ri si ri ri", 1, rep("chan 1 2;", 10)+rep("spawn 0 1 2 2;", 10))
	inTime(t, "waits", func() {
		l, _, f := Waits(code(below, main))
		if f != fault(0, 0) || len(l) != 10*(api.MaxIns-1)*2*10*10 {
			t.Fatalf("%d waits, %v", len(l), f)
		}
		k := 0
		for task := range 10 {
			for at := range api.MaxIns - 1 {
				for held := 1; held <= 2; held++ {
					for from := 1; from <= 10; from++ {
						for to := 1; to <= 10; to++ {
							if want := (api.Wait{From: 2 * from, To: 2 * to, Task: 1 + task, At: at, Held: held, On: 0}); l[k] != want {
								t.Fatalf("the wait %d: %v, want %v", k, l[k], want)
							}
							k++
						}
					}
				}
			}
		}
	})
}

// P1: a round that is long, far back.
func TestLargeRound(t *testing.T) {
	c := ring(29, rep("emit;", api.MaxIns-60))
	inTime(t, "a round", func() {
		if v := judged(t, c); len(v.Round) != 29 {
			t.Errorf("the round %s", told(v.Round))
		}
		wantNarrow(t, c, false)
	})
}
