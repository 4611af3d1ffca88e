package lower

import (
	"fmt"
	"math"
	"math/rand"
	"reflect"
	"slices"
	"strings"
	"testing"

	"pipewright/api"
	"pipewright/render"
)

// writer makes programs that are right, as they come.
type writer struct {
	*rand.Rand
	p     api.Program
	stmts int
	bound []string  // in the stage
	known []api.Var // at the place
}

func pool() []string {
	var all []string
	for _, a := range strings.Split("abcdefghijklmnopqrstuvwxyz", "") {
		all = append(all, a, a+"1")
	}
	return append(all, "main", "in")
}

func pick[T any](m *writer, all []T) T { return all[m.Intn(len(all))] }

func (m *writer) typeOf(ends int) string {
	t := ""
	for range m.Intn(ends + 1) {
		t += pick(m, []string{"s", "r"})
	}
	return t + "i"
}

// fresh is a name that is not bound in the stage.
func (m *writer) fresh() string {
	for {
		if name := pick(m, pool()); !slices.Contains(m.bound, name) {
			m.bound = append(m.bound, name)
			return name
		}
	}
}

func (m *writer) bind(t string) string {
	name := m.fresh()
	m.known = append(m.known, api.Var{Name: name, T: t})
	return name
}

// some is a name that is known whose type begins so, or none.
func (m *writer) some(begins string) api.Var {
	var all []api.Var
	for _, v := range m.known {
		if strings.HasPrefix(v.T, begins) {
			all = append(all, v)
		}
	}
	if len(all) == 0 {
		return api.Var{}
	}
	return pick(m, all)
}

// number makes an expression of at most so many parts.
func (m *writer) number(parts int) api.Expr {
	v := m.some("i")
	switch {
	case parts < 3 && v.Name != "" && m.Intn(4) > 0:
		return name(v.Name)
	case parts < 3:
		return num(m.Int63n(9))
	case m.Intn(5) == 0:
		return op(api.OpNeg, m.number(parts-1))
	}
	left := 1 + m.Intn(parts-2)
	return op(api.OpAdd+m.Intn(5), m.number(left), m.number(parts-1-left))
}

// thing makes an expression of a type, if there is one.
func (m *writer) thing(t string) (api.Expr, bool) {
	if t == "i" {
		return m.number(1 + m.Intn(8)), true
	}
	var all []api.Expr
	for _, v := range m.known {
		if v.T == t {
			all = append(all, name(v.Name))
		}
	}
	if len(all) == 0 {
		return api.Expr{}, false
	}
	return pick(m, all), true
}

func (m *writer) block(depth int) []api.Stmt {
	known := slices.Clone(m.known)
	var body []api.Stmt
	for m.stmts > 0 && m.Intn(8) > 0 {
		m.stmts--
		if s, is := m.stmt(depth); is {
			body = append(body, s)
		}
	}
	m.known = known
	return body
}

func (m *writer) stmt(depth int) (api.Stmt, bool) {
	s := api.Stmt{Do: 1 + m.Intn(api.DoIf), At: m.Intn(100) - 50}
	if m.Intn(4) == 0 {
		s.Do = api.DoChan
	}
	binds := map[int]int{api.DoLet: 1, api.DoChan: 2, api.DoClone: 1, api.DoTake: 1, api.DoFor: 1}[s.Do]
	if depth == api.MaxDepth && s.Do >= api.DoTake || len(m.bound)+binds > api.MaxVars {
		return s, false
	}
	switch s.Do {
	case api.DoLet, api.DoEmit, api.DoRepeat, api.DoIf:
		s.E = es(m.number(1 + m.Intn(8)))
	}
	is := true
	switch s.Do {
	case api.DoLet:
		s.A = m.bind("i")
	case api.DoSet:
		s.A = m.some("i").Name
		s.E = es(m.number(1 + m.Intn(8)))
		is = s.A != ""
	case api.DoChan:
		s.T, s.N = m.typeOf(api.MaxEnds-1), 1+m.Intn(api.MaxSlots)
		s.A, s.B = m.bind("s"+s.T), m.bind("r"+s.T)
	case api.DoClone:
		is = m.clone(&s)
	case api.DoSend:
		is = m.send(&s)
	case api.DoClose:
		s.A = m.some("s").Name
		is = s.A != ""
	case api.DoAbandon, api.DoDrain:
		s.A = m.some("r").Name
		is = s.A != ""
	case api.DoSpawn:
		is = m.spawn(&s)
	case api.DoTake, api.DoFor:
		is = m.take(&s, depth)
	case api.DoRepeat, api.DoIf:
		s.Body = m.block(depth + 1)
	}
	if s.Do == api.DoTake && is || s.Do == api.DoIf {
		s.Else = m.block(depth + 1)
	}
	return s, is
}

func (m *writer) clone(s *api.Stmt) bool {
	of := m.some("s")
	if of.Name == "" {
		return false
	}
	s.B = of.Name
	s.A = m.bind(of.T)
	return true
}

func (m *writer) send(s *api.Stmt) bool {
	through := m.some("s")
	if through.Name == "" {
		return false
	}
	s.A = through.Name
	x, is := m.thing(through.T[1:])
	s.E = es(x)
	return is
}

func (m *writer) take(s *api.Stmt, depth int) bool {
	of := m.some("r")
	if of.Name == "" {
		return false
	}
	known := slices.Clone(m.known)
	s.B = of.Name
	s.A = m.bind(of.T[1:])
	s.Body = m.block(depth + 1)
	m.known = known
	return true
}

func (m *writer) spawn(s *api.Stmt) bool {
	if len(m.p.Stages) == 0 {
		return false
	}
	stage := pick(m, m.p.Stages)
	s.A = stage.Name
	for _, param := range stage.Params {
		x, is := m.thing(param.T)
		if !is {
			return false
		}
		s.E = append(s.E, x)
	}
	return true
}

func (m *writer) stage(name string) api.Stage {
	m.bound, m.known = nil, nil
	s := api.Stage{Name: name, At: m.Intn(100) - 50}
	if name == "main" {
		s.Params = []api.Param{{Name: m.bind("ri"), T: "ri"}}
	} else {
		for range m.Intn(api.MaxParams + 1) {
			t := m.typeOf(m.Intn(api.MaxEnds + 1))
			s.Params = append(s.Params, api.Param{Name: m.bind(t), T: t})
		}
	}
	s.Body = m.block(1)
	return s
}

func (m *writer) program(stmts int) api.Program {
	m.p = api.Program{}
	names := []string{}
	for _, k := range m.Perm(len(pool()))[:m.Intn(5)] {
		if name := pool()[k]; name != "main" {
			names = append(names, name)
		}
	}
	for _, name := range slices.Insert(names, m.Intn(len(names)+1), "main") {
		m.stmts = 2 + m.Intn(stmts)
		m.p.Stages = append(m.p.Stages, m.stage(name))
	}
	return m.p
}

func somePrograms(seed int64, n int) []api.Program {
	m := &writer{Rand: rand.New(rand.NewSource(seed))}
	var all []api.Program
	for range n {
		all = append(all, m.program(3+m.Intn(40)))
	}
	return all
}

// spoilAny changes one thing of what x is, whatever it is.
func (m *writer) spoilAny(x reflect.Value) {
	var ints, texts, lists []reflect.Value
	var into func(v reflect.Value)
	into = func(v reflect.Value) {
		switch v.Kind() {
		case reflect.Int, reflect.Int64:
			ints = append(ints, v)
		case reflect.String:
			texts = append(texts, v)
		case reflect.Slice:
			lists = append(lists, v)
			for i := range v.Len() {
				into(v.Index(i))
			}
		case reflect.Struct:
			for i := range v.NumField() {
				into(v.Field(i))
			}
		}
	}
	into(x)
	switch which := m.Intn(4); {
	case which == 0 && len(ints) > 0:
		pick(m, ints).SetInt(pick(m, []int64{0, 1, -1, 2, 5, 6, 8, 9, 14, 15, math.MaxInt64, math.MinInt64}))
	case which == 1 && len(texts) > 0:
		pick(m, texts).SetString(pick(m, []string{"", "a", "let", "A", "abcdefghijklm", "i", "si", "rrri", "ssssi", "main", "é"}))
	case which == 2:
		list := pick(m, lists)
		list.Set(list.Slice(0, m.Intn(list.Len()+1)))
	default:
		list := pick(m, lists)
		grown := reflect.MakeSlice(list.Type(), list.Len()+1, list.Len()+1)
		reflect.Copy(grown, list)
		if m.Intn(2) == 0 && list.Len() > 0 {
			grown.Index(list.Len()).Set(list.Index(m.Intn(list.Len())))
		}
		list.Set(grown)
	}
}

// wantSecond asks for what the second way tells, and gives its code.
func wantSecond(t *testing.T, p api.Program) int {
	t.Helper()
	want, f := slowLower(p)
	got, g := Lower(p)
	if f != g || !sameCode(got, want) {
		t.Fatalf("Lower(%s): %v %s\nwant %v %s", shown(p), g, shown(got), f, shown(want))
	}
	if f.Code == 0 {
		right(t, p)
	}
	return f.Code
}

// P6.1, and what follows: programs that are right, against the second way, and
// what is told of them may be run.
func TestRightProgramsAsTheyCome(t *testing.T) {
	seen := map[int]int{}
	blocks := map[string]int{}
	for _, p := range somePrograms(1, 1500) {
		if render.Check(p).Code == api.ErrSize {
			continue
		}
		if code := wantSecond(t, p); code != 0 {
			t.Fatalf("%s is not right: %d", shown(p), code)
		}
		c, _ := Lower(p)
		for _, proc := range c.Procs {
			for _, ins := range proc.Ins {
				seen[ins.Op]++
			}
			for _, b := range proc.Blocks {
				blocks[kindsOfBlocks[proc.Blocks[b.Parent].Kind]+" "+kindsOfBlocks[b.Kind]]++
			}
		}
	}
	for op := range api.InExit {
		if seen[op+1] < 100 {
			t.Errorf("%d instructions %s", seen[op+1], ops[op+1])
		}
	}
	for _, outer := range kindsOfBlocks[1:] {
		for _, inner := range kindsOfBlocks[2:] {
			if blocks[outer+" "+inner] < 20 {
				t.Errorf("%d blocks %s in %s", blocks[outer+" "+inner], inner, outer)
			}
		}
	}
}

// P6.1: each statement with a Body in each place of each other one, with and
// without statements beside it.
func TestEachNestedInEach(t *testing.T) {
	heads := []string{"take aN from in", "for aN from in", "take aN from e", "for aN from e", "repeat n", "repeat 2", "if n", "if 1"}
	var all []string // of statements with a % for each place
	for _, head := range heads {
		for _, beside := range []string{"", "emit n;", "chan sN rN int 1;", "let xN = 1; clone cN s;"} {
			all = append(all, head+" { "+beside+" % }", head+" { % "+beside+" }")
			if strings.HasPrefix(head, "take") || strings.HasPrefix(head, "if") {
				all = append(all, head+" { "+beside+" } else { % "+strings.ReplaceAll(beside, "N", "M")+" }", head+" { % } else { "+beside+" }")
			}
		}
	}
	lay := func(parts ...string) string {
		out := "%"
		for i, part := range parts {
			part = strings.NewReplacer("N", fmt.Sprint(i), "M", fmt.Sprint(i+5)).Replace(part)
			out = strings.ReplaceAll(out, "%", part)
		}
		return "stage main(in recv int) { } stage a(n int, s send int, in recv int, e recv recv int) { " + strings.ReplaceAll(out, "%", "") + " emit n; }"
	}
	for i, outer := range all {
		wantSecond(t, parsed(t, lay(outer)))
		for k, inner := range all {
			if code := wantSecond(t, parsed(t, lay(outer, inner))); code != 0 {
				t.Fatalf("%q is not right: %d", lay(outer, inner), code)
			}
			wantSecond(t, parsed(t, lay(outer, inner, all[(3*i+5*k)%len(all)])))
		}
	}
}

// P6.1 and P1: programs with anything changed, against the second way.
func TestSpoiltPrograms(t *testing.T) {
	m := &writer{Rand: rand.New(rand.NewSource(4))}
	seen := map[int]int{}
	for _, p := range somePrograms(5, 1500) {
		p = twin(p)
		for range 1 + m.Intn(3) {
			m.spoilAny(reflect.ValueOf(&p).Elem())
			seen[wantSecond(t, p)]++
		}
	}
	for _, code := range []int{0, api.ErrName, api.ErrForm, api.ErrNumber, api.ErrNone, api.ErrType, api.ErrTwice, api.ErrRange} {
		if seen[code] < 5 {
			t.Errorf("%d programs with the code %d: %v", seen[code], code, seen)
		}
	}
}

// P1
func FuzzLower(f *testing.F) {
	for i := range int64(30) {
		f.Add(i, uint8(i%3))
	}
	f.Fuzz(func(t *testing.T, seed int64, spoilt uint8) {
		m := &writer{Rand: rand.New(rand.NewSource(seed))}
		p := twin(m.program(40))
		for range spoilt % 8 {
			m.spoilAny(reflect.ValueOf(&p).Elem())
		}
		wantSecond(t, p)
	})
}
