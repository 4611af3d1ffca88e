package kinds

import (
	"fmt"
	"math"
	"math/rand"
	"reflect"
	"slices"
	"strings"
	"testing"

	"pipewright/api"
	"pipewright/render"
)

// maker makes programs that are right, as they come.
type maker struct {
	*rand.Rand
	p     api.Program
	stmts int
	bound []string  // in the stage
	known []api.Var // at the place
}

func pool() []string {
	var all []string
	for _, a := range strings.Split("abcdefghijklmnopqrstuvwxyz", "") {
		all = append(all, a, a+"1")
	}
	return append(all, "main", "in")
}

func pick[T any](m *maker, all []T) T { return all[m.Intn(len(all))] }

func (m *maker) typeOf(ends int) string {
	t := ""
	for range m.Intn(ends + 1) {
		t += pick(m, []string{"s", "r"})
	}
	return t + "i"
}

// fresh is a name that is not bound in the stage.
func (m *maker) fresh() string {
	for {
		if name := pick(m, pool()); !slices.Contains(m.bound, name) {
			m.bound = append(m.bound, name)
			return name
		}
	}
}

func (m *maker) bind(t string) string {
	name := m.fresh()
	m.known = append(m.known, api.Var{Name: name, T: t})
	return name
}

// some is a name that is known whose type begins so, or none.
func (m *maker) some(begins string) api.Var {
	var all []api.Var
	for _, v := range m.known {
		if strings.HasPrefix(v.T, begins) {
			all = append(all, v)
		}
	}
	if len(all) == 0 {
		return api.Var{}
	}
	return pick(m, all)
}

// number makes an expression of at most so many parts.
func (m *maker) number(parts int) api.Expr {
	v := m.some("i")
	switch {
	case parts < 3 && v.Name != "" && m.Intn(4) > 0:
		return name(v.Name)
	case parts < 3:
		return num(m.Int63n(9))
	case m.Intn(5) == 0:
		return op(api.OpNeg, m.number(parts-1))
	}
	left := 1 + m.Intn(parts-2)
	return op(api.OpAdd+m.Intn(5), m.number(left), m.number(parts-1-left))
}

// thing makes an expression of a type, if there is one.
func (m *maker) thing(t string) (api.Expr, bool) {
	if t == "i" {
		return m.number(1 + m.Intn(8)), true
	}
	var all []api.Expr
	for _, v := range m.known {
		if v.T == t {
			all = append(all, name(v.Name))
		}
	}
	if len(all) == 0 {
		return api.Expr{}, false
	}
	return pick(m, all), true
}

func (m *maker) block(depth int) []api.Stmt {
	known := slices.Clone(m.known)
	var body []api.Stmt
	for m.stmts > 0 && m.Intn(8) > 0 {
		m.stmts--
		if s, is := m.stmt(depth); is {
			body = append(body, s)
		}
	}
	m.known = known
	return body
}

func (m *maker) stmt(depth int) (api.Stmt, bool) {
	s := api.Stmt{Do: 1 + m.Intn(api.DoIf), At: m.Intn(100) - 50}
	if m.Intn(4) == 0 {
		s.Do = api.DoChan
	}
	binds := map[int]int{api.DoLet: 1, api.DoChan: 2, api.DoClone: 1, api.DoTake: 1, api.DoFor: 1}[s.Do]
	if depth == api.MaxDepth && s.Do >= api.DoTake || len(m.bound)+binds > api.MaxVars {
		return s, false
	}
	switch s.Do {
	case api.DoLet, api.DoEmit, api.DoRepeat, api.DoIf:
		s.E = es(m.number(1 + m.Intn(8)))
	}
	is := true
	switch s.Do {
	case api.DoLet:
		s.A = m.bind("i")
	case api.DoSet:
		s.A = m.some("i").Name
		s.E = es(m.number(1 + m.Intn(8)))
		is = s.A != ""
	case api.DoChan:
		s.T, s.N = m.typeOf(api.MaxEnds-1), 1+m.Intn(api.MaxSlots)
		s.A, s.B = m.bind("s"+s.T), m.bind("r"+s.T)
	case api.DoClone:
		is = m.clone(&s)
	case api.DoSend:
		is = m.send(&s)
	case api.DoClose:
		s.A = m.some("s").Name
		is = s.A != ""
	case api.DoAbandon, api.DoDrain:
		s.A = m.some("r").Name
		is = s.A != ""
	case api.DoSpawn:
		is = m.spawn(&s)
	case api.DoTake, api.DoFor:
		is = m.take(&s, depth)
	case api.DoRepeat, api.DoIf:
		s.Body = m.block(depth + 1)
	}
	if s.Do == api.DoTake && is || s.Do == api.DoIf {
		s.Else = m.block(depth + 1)
	}
	return s, is
}

func (m *maker) clone(s *api.Stmt) bool {
	of := m.some("s")
	if of.Name == "" {
		return false
	}
	s.B = of.Name
	s.A = m.bind(of.T)
	return true
}

func (m *maker) send(s *api.Stmt) bool {
	through := m.some("s")
	if through.Name == "" {
		return false
	}
	s.A = through.Name
	x, is := m.thing(through.T[1:])
	s.E = es(x)
	return is
}

func (m *maker) take(s *api.Stmt, depth int) bool {
	of := m.some("r")
	if of.Name == "" {
		return false
	}
	known := slices.Clone(m.known)
	s.B = of.Name
	s.A = m.bind(of.T[1:])
	s.Body = m.block(depth + 1)
	m.known = known
	return true
}

func (m *maker) spawn(s *api.Stmt) bool {
	if len(m.p.Stages) == 0 {
		return false
	}
	stage := pick(m, m.p.Stages)
	s.A = stage.Name
	for _, param := range stage.Params {
		x, is := m.thing(param.T)
		if !is {
			return false
		}
		s.E = append(s.E, x)
	}
	return true
}

func (m *maker) stage(name string) api.Stage {
	m.bound, m.known = nil, nil
	s := api.Stage{Name: name, At: m.Intn(100) - 50}
	if name == "main" {
		s.Params = []api.Param{{Name: m.bind("ri"), T: "ri"}}
	} else {
		for range m.Intn(api.MaxParams + 1) {
			t := m.typeOf(m.Intn(api.MaxEnds + 1))
			s.Params = append(s.Params, api.Param{Name: m.bind(t), T: t})
		}
	}
	s.Body = m.block(1)
	return s
}

func (m *maker) program(stmts int) api.Program {
	m.p = api.Program{}
	names := []string{}
	for _, k := range m.Perm(len(pool()))[:m.Intn(5)] {
		if name := pool()[k]; name != "main" {
			names = append(names, name)
		}
	}
	for _, name := range slices.Insert(names, m.Intn(len(names)+1), "main") {
		m.stmts = 2 + m.Intn(stmts)
		m.p.Stages = append(m.p.Stages, m.stage(name))
	}
	return m.p
}

func somePrograms(seed int64, n int) []api.Program {
	m := &maker{Rand: rand.New(rand.NewSource(seed))}
	var all []api.Program
	for range n {
		all = append(all, m.program(3+m.Intn(40)))
	}
	return all
}

// P5.1 and P5.2: programs that are right, against the second way.
func TestRightProgramsAsTheyCome(t *testing.T) {
	seen := map[int]int{}
	types := map[string]int{}
	for _, p := range somePrograms(1, 600) {
		if render.Check(p).Code == api.ErrSize {
			continue
		}
		want, f := slowVars(p)
		if f != fault(0, 0) {
			t.Fatalf("the second way: %v of %s", f, shown(p))
		}
		got := right(t, p)
		wantSame(t, p, got, want)
		for _, s := range stmtsOf(&p) {
			seen[s.Do]++
		}
		for _, v := range slices.Concat(got...) {
			types[v.T]++
		}
	}
	for do := range api.DoIf {
		if seen[do+1] < 50 {
			t.Errorf("%d statements of the kind %d", seen[do+1], do+1)
		}
	}
	if len(types) != 1+2+4+8 {
		t.Errorf("types: %v", types)
	}
}

func wantSame(t *testing.T, p api.Program, got, want [][]api.Var) {
	t.Helper()
	for i := range want {
		if said(got[i]) != said(want[i]) {
			t.Fatalf("Vars(%s): stage %d: %s, want %s", shown(p), i, said(got[i]), said(want[i]))
		}
	}
}

// texts gives all names and types of a program, to be changed.
func texts(v reflect.Value, out []*string) []*string {
	switch v.Kind() {
	case reflect.String:
		if s := v.Addr().Interface().(*string); *s != "" {
			out = append(out, s)
		}
	case reflect.Slice:
		for i := range v.Len() {
			out = texts(v.Index(i), out)
		}
	case reflect.Struct:
		for i := range v.NumField() {
			out = texts(v.Field(i), out)
		}
	}
	return out
}

func namesOf(p *api.Program) []*string {
	isType := func(s *string) bool { return render.Type(*s, api.MaxEnds) && *s != "i" }
	all := texts(reflect.ValueOf(p).Elem(), nil)
	return slices.DeleteFunc(all, isType)
}

// blocksOf gives all lists of statements.
func blocksOf(p *api.Program) []*[]api.Stmt {
	var all []*[]api.Stmt
	for i := range p.Stages {
		all = append(all, &p.Stages[i].Body)
	}
	for _, s := range stmtsOf(p) {
		if s.Do == api.DoTake || s.Do == api.DoIf {
			all = append(all, &s.Body, &s.Else)
		} else if s.Do >= api.DoTake {
			all = append(all, &s.Body)
		}
	}
	return all
}

// spoil changes one thing of a program, so that it still stands as a text
// mostly.
func (m *maker) spoil(p *api.Program) {
	stmts := stmtsOf(p)
	if len(p.Stages) == 0 || len(stmts) == 0 {
		return
	}
	s := pick(m, stmts)
	block := pick(m, blocksOf(p))
	stage := &p.Stages[m.Intn(len(p.Stages))]
	switch m.Intn(17) {
	case 0, 1, 2:
		*pick(m, namesOf(p)) = *pick(m, namesOf(p))
	case 3:
		*pick(m, namesOf(p)) = pick(m, pool())
	case 4:
		m.spoilKind(s)
	case 5:
		m.spoilChan(p)
	case 6:
		if len(s.E) > 0 {
			*pick(m, partsOf(&s.E[m.Intn(len(s.E))])) = m.anything(p)
		}
	case 7:
		if len(s.E) > 0 {
			s.E = s.E[1:]
		}
	case 8, 9:
		*block = slices.Insert(*block, m.Intn(len(*block)+1), copied(reflect.ValueOf(*s)).Interface().(api.Stmt))
	case 10, 11:
		if len(*block) > 0 {
			k := m.Intn(len(*block))
			*block = slices.Delete(*block, k, k+1)
		}
	case 12:
		a, b := pick(m, stmts), pick(m, stmts)
		if len(a.Body)+len(a.Else)+len(b.Body)+len(b.Else) == 0 {
			*a, *b = *b, *a
		}
	case 13:
		other := &p.Stages[m.Intn(len(p.Stages))]
		*stage, *other = *other, *stage
	case 14:
		if k := m.Intn(len(stage.Params) + 1); k < len(stage.Params) {
			stage.Params[k].T = m.typeOf(api.MaxEnds)
		} else {
			stage.Params = append(stage.Params, api.Param{Name: pick(m, pool()), T: m.typeOf(api.MaxEnds)})
		}
	case 15:
		for i := range m.Intn(2 * api.MaxVars) {
			*block = append(*block, let(fmt.Sprint("v", i)))
		}
	case 16:
		if m.Intn(3) == 0 {
			p.Stages = slices.Delete(p.Stages, 0, 1)
		}
	}
}

func (m *maker) anything(p *api.Program) api.Expr {
	switch m.Intn(3) {
	case 0:
		return num(m.Int63n(5))
	case 1:
		return op(api.OpNeg, name(*pick(m, namesOf(p))))
	}
	return name(*pick(m, namesOf(p)))
}

// spoilKind makes one kind another one of the same fields.
func (m *maker) spoilKind(s *api.Stmt) {
	for _, alike := range [][]int{
		{api.DoLet, api.DoSet, api.DoSend},
		{api.DoClose, api.DoAbandon, api.DoDrain},
		{api.DoTake, api.DoFor},
		{api.DoRepeat, api.DoIf},
	} {
		if slices.Contains(alike, s.Do) && len(s.Else) == 0 {
			s.Do = pick(m, alike)
		}
	}
}

func (m *maker) spoilChan(p *api.Program) {
	for _, s := range stmtsOf(p) {
		if s.Do == api.DoChan && m.Intn(4) == 0 {
			s.N = m.Intn(api.MaxSlots + 3)
			s.T = m.typeOf(api.MaxEnds)
		}
	}
}

// P5.1: programs with some things changed, against the second way.
func TestSpoiltPrograms(t *testing.T) {
	m := &maker{Rand: rand.New(rand.NewSource(2))}
	seen := map[int]int{}
	for _, p := range somePrograms(3, 4000) {
		p = twin(p)
		for range 1 + m.Intn(3) {
			m.spoil(&p)
			seen[wantSecond(t, p)]++
		}
	}
	for _, code := range []int{0, api.ErrTwice, api.ErrNone, api.ErrType, api.ErrStage, api.ErrCount, api.ErrRange, api.ErrMany, api.ErrMain} {
		if seen[code] < 20 {
			t.Errorf("%d programs with the code %d: %v", seen[code], code, seen)
		}
	}
}

// wantSecond asks for what the second way tells, and gives its code.
func wantSecond(t *testing.T, p api.Program) int {
	t.Helper()
	want, f := slowVars(p)
	if f.Code != 0 {
		wantFault(t, p, f.Code, f.At)
	} else {
		wantSame(t, p, right(t, p), want)
	}
	if t.Failed() {
		t.FailNow()
	}
	return f.Code
}

// spoilAny changes one thing of a program, whatever it is.
func (m *maker) spoilAny(p *api.Program) {
	var ints, texts, lists []reflect.Value
	var into func(v reflect.Value)
	into = func(v reflect.Value) {
		switch v.Kind() {
		case reflect.Int, reflect.Int64:
			ints = append(ints, v)
		case reflect.String:
			texts = append(texts, v)
		case reflect.Slice:
			lists = append(lists, v)
			for i := range v.Len() {
				into(v.Index(i))
			}
		case reflect.Struct:
			for i := range v.NumField() {
				into(v.Field(i))
			}
		}
	}
	into(reflect.ValueOf(p).Elem())
	switch which := m.Intn(4); {
	case which == 0 && len(ints) > 0:
		pick(m, ints).SetInt(pick(m, []int64{0, 1, -1, 2, 5, 6, 8, 9, 14, 15, math.MaxInt64, math.MinInt64}))
	case which == 1 && len(texts) > 0:
		pick(m, texts).SetString(pick(m, []string{"", "a", "let", "A", "abcdefghijklm", "i", "si", "rrri", "ssssi", "main", "é"}))
	case which == 2:
		list := pick(m, lists)
		list.Set(list.Slice(0, m.Intn(list.Len()+1)))
	default:
		list := pick(m, lists)
		grown := reflect.MakeSlice(list.Type(), list.Len()+1, list.Len()+1)
		reflect.Copy(grown, list)
		if m.Intn(2) == 0 && list.Len() > 0 {
			grown.Index(list.Len()).Set(list.Index(m.Intn(list.Len())))
		}
		list.Set(grown)
	}
}

// P5.1 and P1: programs that no text says.
func TestProgramsThatNoTextSays(t *testing.T) {
	m := &maker{Rand: rand.New(rand.NewSource(4))}
	seen := map[int]int{}
	for _, p := range somePrograms(5, 2000) {
		p = twin(p)
		for range 1 + m.Intn(3) {
			m.spoilAny(&p)
			seen[wantSecond(t, p)]++
		}
	}
	for _, code := range []int{0, api.ErrName, api.ErrForm, api.ErrNumber, api.ErrNone, api.ErrType, api.ErrTwice, api.ErrRange} {
		if seen[code] < 10 {
			t.Errorf("%d programs with the code %d: %v", seen[code], code, seen)
		}
	}
}

// What follows: names may be changed into others.
func TestOtherNames(t *testing.T) {
	m := &maker{Rand: rand.New(rand.NewSource(6))}
	rights, wrongs := 0, 0
	for _, p := range append(somePrograms(7, 500), parsed(t, long)) {
		for range 2 {
			q, as := renamed(p)
			vars, f := Vars(p)
			again, g := Vars(q)
			if f.Code == api.ErrSize || g.Code == api.ErrSize {
				continue
			}
			if f != g || len(vars) != len(again) {
				t.Fatalf("Vars(%s): %v, with other names %v", shown(p), f, g)
			}
			for i, list := range vars {
				for k := range list {
					list[k].Name = as[list[k].Name]
				}
				if said(list) != said(again[i]) {
					t.Fatalf("Vars(%s): %s, with other names %s", shown(p), said(list), said(again[i]))
				}
			}
			if f.Code == 0 {
				rights++
			} else {
				wrongs++
			}
			p = twin(p)
			m.spoil(&p)
		}
	}
	if rights < 400 || wrongs < 200 {
		t.Errorf("%d right, %d wrong", rights, wrongs)
	}
}

// renamed gives each name another one that is nowhere else; main stays.
func renamed(p api.Program) (api.Program, map[string]string) {
	p = twin(p)
	as := map[string]string{"main": "main"}
	for _, name := range variablesOf(&p) {
		if as[*name] == "" {
			as[*name] = fmt.Sprint("z9z", len(as))
		}
		*name = as[*name]
	}
	return p, as
}

// variablesOf gives all names, but not the types.
func variablesOf(p *api.Program) []*string {
	var all []*string
	for i := range p.Stages {
		s := &p.Stages[i]
		all = append(all, &s.Name)
		for k := range s.Params {
			all = append(all, &s.Params[k].Name)
		}
	}
	for _, s := range stmtsOf(p) {
		all = append(all, &s.A, &s.B)
		for e := range s.E {
			for _, part := range partsOf(&s.E[e]) {
				all = append(all, &part.Name)
			}
		}
	}
	return slices.DeleteFunc(all, func(name *string) bool { return *name == "" })
}

// What follows: a stage more, at the end, that is right and not called main
// changes nothing for the others.
func TestOneStageMore(t *testing.T) {
	m := &maker{Rand: rand.New(rand.NewSource(8))}
	rights, wrongs := 0, 0
	for _, p := range append(somePrograms(9, 600), parsed(t, long)) {
		if m.Intn(2) == 0 {
			p = twin(p)
			m.spoil(&p)
		}
		vars, f := Vars(p)
		q := twin(p)
		m.p, m.stmts = api.Program{}, 1+m.Intn(20)
		if f.Code == 0 {
			m.p = p
		}
		q.Stages = append(q.Stages, m.stage("z9z"))
		again, g := Vars(q)
		if render.Check(p).Code != 0 || render.Check(q).Code != 0 {
			continue
		}
		if f != g || f.Code == 0 && len(again) != len(vars)+1 {
			t.Fatalf("Vars(%s): %v, with a stage more %v", shown(p), f, g)
		}
		wantSame(t, q, again, vars)
		if f.Code == 0 {
			rights++
		} else {
			wrongs++
		}
	}
	if rights < 200 || wrongs < 50 {
		t.Errorf("%d right, %d wrong", rights, wrongs)
	}
}

// P1
func FuzzVars(f *testing.F) {
	for i := range int64(30) {
		f.Add(i, uint8(i%5), uint8(i%3))
	}
	f.Fuzz(func(t *testing.T, seed int64, spoilt, others uint8) {
		m := &maker{Rand: rand.New(rand.NewSource(seed))}
		p := twin(m.program(40))
		for range spoilt % 16 {
			m.spoil(&p)
		}
		for range others % 8 {
			m.spoilAny(&p)
		}
		wantSecond(t, p)
	})
}
