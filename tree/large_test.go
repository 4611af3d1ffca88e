package tree

import (
	"fmt"
	"slices"
	"testing"

	"pipewright/api"
)

// manyVars has so many of a type behind others.
func manyVars(p api.Proc, n int, of string) api.Proc {
	p.Vars = append(p.Vars, slices.Repeat([]api.Var{{T: of}}, n)...)
	return p
}

// filled lays instructions ahead of the last one, as many as there may be.
func filled(p api.Proc, do func(i int) api.Ins) api.Proc {
	last := p.Ins[len(p.Ins)-1]
	p.Ins = p.Ins[:len(p.Ins)-1]
	for i := 0; len(p.Ins) < api.MaxIns-1; i++ {
		p.Ins = append(p.Ins, do(i))
	}
	p.Ins = append(p.Ins, last)
	return p
}

func upTo(from, to int) []int {
	var all []int
	for ; from <= to; from++ {
		all = append(all, from)
	}
	return all
}

func wantList(t *testing.T, what string, got, want []int) {
	t.Helper()
	if !slices.Equal(got, want) {
		t.Fatalf("%s: %v, want %v", what, got, want)
	}
}

// P1: rows of clones, the last one first, from task to task: each channel comes
// through all of them.
func TestLargeRows(t *testing.T) {
	const row = api.MaxIns - 40
	c := api.Code{Main: 9}
	for k := range 9 {
		said := ""
		if k > 0 {
			said = fmt.Sprintf("spawn %d %d;", k-1, row)
		}
		p := filled(manyVars(proc("si", 1, said), row, "si"), func(i int) api.Ins {
			i %= row
			return api.Ins{Op: api.InClone, A: row - i, B: row - i - 1}
		})
		c.Procs = append(c.Procs, p)
	}
	c.Procs = append(c.Procs, proc("ri si ri", 1, rep("chan 1 2;", 29)+"spawn 8 1"))
	inTime(t, "rows", func() {
		g := grown(t, c)
		for k := 1; k < 10; k++ {
			for v := range row + 1 {
				wantList(t, "rows", g.May[k][v], upTo(1, 29))
			}
		}
	})
}

// P1: as many variables as there may be in as many tasks as there may be, and
// all of them parameters.
func TestLargeParameters(t *testing.T) {
	const most, sends = 2 * api.MaxIns, api.MaxIns - 1
	said := ""
	for i := range 29 {
		said += fmt.Sprintf("chan %d %d; spawn 0;", 1+2*i, 2+2*i)
	}
	main := proc("ri"+rep(" si ri", sends)+" si", 1, said)
	for i := range 29 {
		for v := range most {
			main.Ins[2*i+1].Args = append(main.Ins[2*i+1].Args, api.Arg{V: 1 + 2*((v+i)%sends)})
		}
	}
	below := manyVars(proc("", most, ""), most, "si")
	inTime(t, "parameters", func() {
		g := grown(t, code(below, main))
		if len(g.Tasks) != 30 || len(g.Sites) != 30 {
			t.Fatalf("%d tasks and %d channels", len(g.Tasks), len(g.Sites))
		}
		for k := 1; k < 30; k++ {
			for v, list := range g.May[k] {
				var want []int
				if of := (v + k - 1) % sends; of < 29 {
					want = []int{of + 1}
				}
				wantList(t, "parameters", list, want)
			}
		}
	})
}

// crowded has 30 tasks and 30 channels: 15 of ends, all of them handed to all
// tasks; each task takes from all of them and gives to all of them, so many
// times, and one has something to give.
func crowded(times int) api.Code {
	types := "rsi ssi " + rep("si ", times)
	said := ""
	for i := range times {
		said = fmt.Sprintf("take %d 0; give 1 %d;", 2+i, 2+i) + said
	}
	main := "spawn 0 1 2;" + rep("spawn 0 1 2;", 28) + rep("chan 2 1;", 15) + rep("chan 3 4; give 2 3;", 14)
	return code(proc(types, 2, said), proc("ri rsi ssi si ri", 1, main))
}

// P1: all go through all.
func TestLargeCrowd(t *testing.T) {
	const times = (api.MaxIns - 1) / 2
	c := crowded(times)
	inTime(t, "a crowd", func() {
		g := grown(t, c)
		if len(g.Tasks) != 30 || len(g.Sites) != 30 {
			t.Fatalf("%d tasks and %d channels", len(g.Tasks), len(g.Sites))
		}
		for k := 1; k < 30; k++ {
			wantList(t, "to receive", g.May[k][0], upTo(1, 15))
			wantList(t, "to send", g.May[k][1], upTo(1, 15))
			for v := range times {
				wantList(t, "taken", g.May[k][2+v], upTo(16, 29))
			}
		}
	})
}

// P1: stairs of channels: what is taken from one is given to the next one, many
// times over, the last one first.
func TestLargeStairs(t *testing.T) {
	const stairs, times = 14, 75
	taken := 1 + 2*stairs
	end := taken + times*stairs
	types := "ri" + rep(" ssi rsi", stairs) + rep(" si", times*stairs) + " si ri"
	said := ""
	for n := range times {
		for k := range stairs - 1 {
			v := taken + n*stairs + k
			said = fmt.Sprintf("take %d %d; give %d %d;", v, 2+2*k, 3+2*k, v) + said
		}
	}
	for k := range stairs {
		said += fmt.Sprintf("chan %d %d;", 1+2*k, 2+2*k)
	}
	said += rep(fmt.Sprintf("chan %d %d; give 1 %d;", end, end+1, end), 15)
	inTime(t, "stairs", func() {
		g := grown(t, code(proc(types, 1, said)))
		for n := range times {
			for k := range stairs - 1 {
				wantList(t, "stairs", g.May[0][taken+n*stairs+k], upTo(15, 29))
			}
			wantList(t, "nothing", g.May[0][taken+n*stairs+stairs-1], nil)
		}
	})
}

// P1: the greatest code there is, of which little comes.
func TestLargeNothing(t *testing.T) {
	c := api.Code{Main: 9}
	for k := range 10 {
		said := ""
		if k > 0 {
			said = fmt.Sprintf("spawn %d 0;", k-1)
		}
		if k == 9 {
			said += rep("spawn 0 0;", 20)
		}
		p := manyVars(proc("ri", 1, said), 2*api.MaxIns-1, "rri")
		c.Procs = append(c.Procs, filled(p, func(i int) api.Ins {
			return api.Ins{Op: api.InTake, A: 0, B: 1 + (7*i)%(2*api.MaxIns-1), To: i}
		}))
	}
	inTime(t, "nothing", func() {
		g := grown(t, c)
		if len(g.Tasks) != 30 || len(g.Sites) != 1 {
			t.Errorf("%d tasks and %d channels", len(g.Tasks), len(g.Sites))
		}
		for k := range g.Tasks {
			wantList(t, "handed on", g.May[k][0], []int{0})
			for _, list := range g.May[k][1:] {
				wantList(t, "nothing", list, nil)
			}
		}
	})
}
