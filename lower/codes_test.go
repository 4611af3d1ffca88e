package lower

import (
	"math/rand"
	"reflect"
	"slices"
	"strings"
	"testing"

	"pipewright/api"
)

// wantSecondCheck asks for what the second way tells, and gives its code.
func wantSecondCheck(t *testing.T, c api.Code) int {
	t.Helper()
	want := slowCheck(c)
	if got := Check(c); got != want {
		t.Fatalf("Check(%s): %v, want %v", shown(c), got, want)
	}
	return want.Code
}

// insOf gives all instructions of a code.
func insOf(c *api.Code) []*api.Ins {
	var all []*api.Ins
	for k := range c.Procs {
		for i := range c.Procs[k].Ins {
			all = append(all, &c.Procs[k].Ins[i])
		}
	}
	return all
}

// spoilCode changes one thing of a code, so that it may still be run at times.
func (m *writer) spoilCode(c *api.Code) {
	all := insOf(c)
	if len(all) == 0 {
		return
	}
	proc := &c.Procs[m.Intn(len(c.Procs))]
	ins := pick(m, all)
	number := m.Intn(len(proc.Vars)+3) - 1
	switch m.Intn(14) {
	case 0:
		ins.A = number
	case 1:
		ins.B = number
	case 2:
		ins.Op = m.Intn(19)
	case 3:
		ins.To = m.Intn(len(proc.Ins)+2) - 1
	case 4:
		ins.Block, ins.Loop = m.Intn(len(proc.Blocks)+1), m.Intn(len(proc.Blocks)+2)-1
	case 5:
		*ins = *pick(m, all)
	case 6:
		m.spoilSteps(&ins.E, number)
	case 7:
		if len(ins.Args) > 0 {
			m.spoilSteps(&ins.Args[m.Intn(len(ins.Args))].E, number)
		}
	case 8:
		if len(ins.Args) > 0 {
			ins.Args[m.Intn(len(ins.Args))].V = number
		}
	case 9:
		if len(proc.Vars) > 0 {
			proc.Vars[m.Intn(len(proc.Vars))].T = m.typeOf(api.MaxEnds)
		}
	case 10:
		proc.Params += m.Intn(3) - 1
	case 11:
		if len(proc.Blocks) > 0 {
			b := &proc.Blocks[m.Intn(len(proc.Blocks))]
			pick(m, []func(){
				func() { b.Kind = 1 + m.Intn(5) }, func() { b.A = number },
				func() { b.N = m.Intn(9) - 1 }, func() { b.Parent = m.Intn(len(proc.Blocks)) },
			})()
		}
	case 12:
		c.Main = m.Intn(len(c.Procs) + 1)
	case 13:
		if ins.Op == api.InChan {
			ins.N, ins.T = m.Intn(8), m.typeOf(2)
		}
	}
}

func (m *writer) spoilSteps(e *[]api.Push, number int) {
	step := api.Push{Op: 1 + m.Intn(8), N: int64(number)}
	at := m.Intn(len(*e) + 1)
	if m.Intn(2) == 0 && at < len(*e) {
		(*e)[at] = step
	} else {
		*e = slices.Insert(*e, at, step)
	}
}

// P6.2: codes with some things changed, against the second way.
func TestSpoiltCodes(t *testing.T) {
	m := &writer{Rand: rand.New(rand.NewSource(11))}
	seen := map[int]int{}
	programs := append(somePrograms(12, 3000), slices.Repeat([]api.Program{parsed(t, long)}, 3000)...)
	for _, p := range programs {
		c, _ := Lower(p)
		c = twin(c)
		for range 1 + m.Intn(4) {
			m.spoilCode(&c)
			seen[wantSecondCheck(t, c)]++
		}
	}
	for _, code := range []int{0, api.ErrCount, api.ErrForm, api.ErrCode, api.ErrMain} {
		if seen[code] < 100 {
			t.Errorf("%d codes with the code %d: %v", seen[code], code, seen)
		}
	}
}

// P6.2 and P1: codes with anything changed, against the second way.
func TestAnyCodes(t *testing.T) {
	m := &writer{Rand: rand.New(rand.NewSource(13))}
	seen := map[int]int{}
	programs := append(somePrograms(14, 1500), slices.Repeat([]api.Program{parsed(t, long)}, 1500)...)
	for _, p := range programs {
		c, _ := Lower(p)
		c = twin(c)
		for range 1 + m.Intn(3) {
			m.spoilAny(reflect.ValueOf(&c).Elem())
			seen[wantSecondCheck(t, c)]++
		}
	}
	for _, code := range []int{0, api.ErrType, api.ErrCount, api.ErrNone, api.ErrForm, api.ErrCode, api.ErrMain} {
		if seen[code] < 5 {
			t.Errorf("%d codes with the code %d: %v", seen[code], code, seen)
		}
	}
}

// P1: codes made of nothing but zeros and odd values.
func TestOddCodes(t *testing.T) {
	m := &writer{Rand: rand.New(rand.NewSource(15))}
	for range 3000 {
		c := api.Code{}
		for range 30 {
			m.spoilAny(reflect.ValueOf(&c).Elem())
			wantSecondCheck(t, c)
		}
	}
}

// P6.1, and what follows: the greatest programs there are.
func TestGreatest(t *testing.T) {
	main := "stage main(in recv int) { } "
	seven := "repeat 1 { repeat 1 { repeat 1 { repeat 1 { repeat 1 { repeat 1 { repeat 1 { % } } } } } } } "
	params := "a0 send int, a1 recv int, a2 recv recv int, a3 send send int, a4 int, a5 send recv send int"
	terms := strings.Repeat("(1 + ", 9) + "-a4" + strings.Repeat(")", 9)
	chans := ""
	for i := range 12 {
		chans += "chan s" + string(rune('a'+i)) + " r" + string(rune('a'+i)) + " send send int 5; "
	}
	for _, body := range []string{
		strings.Repeat("repeat 9 { } ", 300),
		strings.Repeat("if a4 { } ", 300),
		strings.Repeat("if a4 { } else { emit 1; } ", 150),
		strings.Replace(seven, "%", chans, 1) + strings.Repeat("repeat 1 { } ", 281),
		chans + strings.Repeat("emit "+terms+"; ", 100),
		strings.Repeat("spawn main(a1); ", 300),
	} {
		p := parsed(t, main+"stage a("+params+") { "+body+"}")
		if code := wantSecond(t, p); code != 0 {
			t.Errorf("%q is not right: %d", short(body), code)
		}
	}
	ten := ""
	for i := range 9 {
		ten += "stage s" + string(rune('a'+i)) + "(" + params + ") { " + strings.Repeat("emit a4; ", 30) + "} "
	}
	if code := wantSecond(t, parsed(t, ten+main)); code != 0 {
		t.Errorf("ten stages are not right: %d", code)
	}
}

// P1
func FuzzCheck(f *testing.F) {
	for i := range int64(30) {
		f.Add(i, uint8(i%5), uint8(i%3))
	}
	f.Fuzz(func(t *testing.T, seed int64, spoilt, others uint8) {
		m := &writer{Rand: rand.New(rand.NewSource(seed))}
		c, _ := Lower(m.program(40))
		c = twin(c)
		for range spoilt % 16 {
			m.spoilCode(&c)
		}
		for range others % 8 {
			m.spoilAny(reflect.ValueOf(&c).Elem())
		}
		wantSecondCheck(t, c)
	})
}
