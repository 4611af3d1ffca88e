package render

import (
	"math"
	"math/rand"
	"reflect"
	"slices"
	"strings"
	"testing"

	"pipewright/api"
	"pipewright/syntax"
)

// maker makes programs that may stand, as they come.
type maker struct {
	*rand.Rand
	stmts int
}

func (m *maker) name() string {
	for {
		s := string([]byte{byte('a' + m.Intn(26))})
		for range m.Intn(3) {
			s += string("abcdefghijklmnopqrstuvwxyz0123456789"[m.Intn(36)])
		}
		if slowName(s) {
			return s
		}
	}
}

func (m *maker) typeOf() string {
	t := ""
	for range m.Intn(api.MaxEnds + 1) {
		t += string("sr"[m.Intn(2)])
	}
	return t + "i"
}

// expr makes one of just so many parts.
func (m *maker) expr(parts int) api.Expr {
	switch {
	case parts == 1 && m.Intn(2) == 0:
		return num(m.Int63n(1 << m.Intn(50)))
	case parts == 1:
		return name(m.name())
	case parts == 2 || m.Intn(5) == 0:
		return neg(m.expr(parts - 1))
	}
	left := 1 + m.Intn(parts-2)
	return op(api.OpAdd+m.Intn(5), m.expr(left), m.expr(parts-1-left))
}

func (m *maker) block(depth int) []api.Stmt {
	var block []api.Stmt
	for m.stmts > 0 && m.Intn(8) > 0 {
		m.stmts--
		block = append(block, m.stmt(depth))
	}
	return block
}

func (m *maker) stmt(depth int) api.Stmt {
	do := 1 + m.Intn(api.DoIf)
	if depth == api.MaxDepth {
		do = 1 + m.Intn(api.DoSpawn)
	}
	s := kindOf(do)
	s.At = m.Intn(100) - 50
	if s.A != "" {
		s.A = m.name()
	}
	if s.B != "" {
		s.B = m.name()
	}
	if do == api.DoChan {
		s.T, s.N = m.typeOf(), m.Intn(9)
	}
	if do == api.DoSpawn {
		s.E = make([]api.Expr, m.Intn(api.MaxParams+1))
	}
	for i := range s.E {
		s.E[i] = m.expr(1 + m.Intn(1+m.Intn(api.MaxTerms)))
	}
	if len(s.Body) > 0 {
		s.Body = m.block(depth + 1)
	}
	if len(s.Else) > 0 {
		s.Else = m.block(depth + 1)
	}
	return s
}

func (m *maker) program() api.Program {
	var p api.Program
	for range 1 + m.Intn(api.MaxStages) {
		s := api.Stage{Name: m.name(), At: m.Intn(100) - 50}
		for range m.Intn(api.MaxParams + 1) {
			s.Params = append(s.Params, api.Param{Name: m.name(), T: m.typeOf()})
		}
		s.Body = m.block(1)
		p.Stages = append(p.Stages, s)
	}
	return p
}

func somePrograms(n int) []api.Program {
	m := &maker{Rand: rand.New(rand.NewSource(4))}
	var all []api.Program
	for range n {
		m.stmts = 5 + m.Intn(60)
		all = append(all, m.program())
	}
	return all
}

// P4.1 and P4.2, there and back: as the second ones tell it.
func TestPrintOfProgramsAsTheyCome(t *testing.T) {
	tooLong := 0
	for _, p := range somePrograms(300) {
		want := slowText(p)
		if len(want) > api.MaxText {
			wantFault(t, p, api.ErrSize, -1)
			tooLong++
			continue
		}
		wantText(t, p, want)
		wantNeeded(t, p, want)
	}
	if tooLong > 150 {
		t.Errorf("%d texts are too long", tooLong)
	}
}

// spoilAny changes one thing of a program, whatever it is.
func spoilAny(m *maker, p *api.Program) {
	var ints, texts, lists []reflect.Value
	var into func(v reflect.Value)
	into = func(v reflect.Value) {
		switch v.Kind() {
		case reflect.Int, reflect.Int64:
			ints = append(ints, v)
		case reflect.String:
			texts = append(texts, v)
		case reflect.Slice:
			lists = append(lists, v)
			for i := range v.Len() {
				into(v.Index(i))
			}
		case reflect.Struct:
			for i := range v.NumField() {
				into(v.Field(i))
			}
		}
	}
	into(reflect.ValueOf(p).Elem())
	pick := func(all []reflect.Value) reflect.Value { return all[m.Intn(len(all))] }
	someInts := []int64{0, 1, -1, 2, 3, 4, 6, 8, 9, 10, 11, 12, 13, 14, 15, 999999999999999999, 1000000000000000000, math.MinInt64}
	someTexts := []string{"", "a", "let", "A", "abcdefghijkl", "abcdefghijklm", "i", "si", "rrri", "ssssi", "1a", "a b", "é"}
	switch which := m.Intn(20); {
	case which < 7 && len(ints) > 0:
		pick(ints).SetInt(someInts[m.Intn(len(someInts))])
	case which < 14 && len(texts) > 0:
		pick(texts).SetString(someTexts[m.Intn(len(someTexts))])
	case which == 14:
		deepen(m, p)
	case which == 15:
		fatten(p)
	case which == 16:
		spoilChans(m, p)
	default:
		spoilList(m, pick(lists))
	}
}

// deepen lays a statement into more blocks.
func deepen(m *maker, p *api.Program) {
	if all := stmtsOf(p); len(all) > 0 {
		s := all[m.Intn(len(all))]
		for range 1 + m.Intn(api.MaxDepth) {
			*s = api.Stmt{Do: api.DoIf, E: es(num(1)), Body: []api.Stmt{*s}}
		}
	}
}

// fatten gives each list of arguments a long text.
func fatten(p *api.Program) {
	for _, s := range stmtsOf(p) {
		if s.Do == api.DoSpawn {
			s.E = es(great(), great(), great(), great(), great(), great())
		}
	}
}

func spoilChans(m *maker, p *api.Program) {
	for _, s := range stmtsOf(p) {
		if s.Do == api.DoChan && m.Intn(4) == 0 {
			s.N = []int{-1, 1e18 - 1, 1e18}[m.Intn(3)]
		}
	}
}

func spoilList(m *maker, list reflect.Value) {
	n := list.Len()
	switch m.Intn(4) {
	case 0:
		list.SetZero()
	case 1:
		list.Set(list.Slice(0, n-m.Intn(n+1)))
	case 2:
		grown := reflect.MakeSlice(list.Type(), n+1, n+1)
		reflect.Copy(grown, list)
		list.Set(grown)
	case 3:
		times := []int{2, 3, 7, 21, 301}[m.Intn(5)]
		grown := reflect.MakeSlice(list.Type(), 0, n)
		for range times {
			grown = reflect.AppendSlice(grown, list)
		}
		if grown.Len() < 2000 {
			list.Set(grown)
		}
	}
}

// P4.1: programs with some things changed, against the second one.
func TestCheckOfProgramsThatWereSpoilt(t *testing.T) {
	m := &maker{Rand: rand.New(rand.NewSource(5))}
	seen := map[int]int{}
	for _, p := range somePrograms(1500) {
		if m.Intn(2) == 0 {
			p.Stages = p.Stages[:1]
		}
		p = twin(p)
		for range 1 + m.Intn(3) {
			spoilAny(m, &p)
			want := slowCheck(p)
			seen[want.Code]++
			if got := Check(p); got != want {
				t.Fatalf("Check(%s): %v, want %v", shown(p), got, want)
			}
			if want.Code == 0 {
				wantText(t, p, slowText(p))
			} else {
				wantFault(t, p, want.Code, want.At)
			}
		}
	}
	for _, code := range []int{0, api.ErrNone, api.ErrMany, api.ErrName, api.ErrType, api.ErrForm, api.ErrRange, api.ErrNumber, api.ErrDeep, api.ErrSize} {
		if seen[code] == 0 {
			t.Errorf("no program with the code %d: %v", code, seen)
		}
	}
}

// What follows: what Parse tells may stand as a text, or is too long.
func TestPrintOfWhatParseTells(t *testing.T) {
	for _, src := range []string{
		"stage main(in recv int) { drain in; }",
		"stage a() { emit 1 - 2 - 3; }",
		"stage a(){if((((1)))){}else{}take a from b{}else{emit((a)<(b))==c;}}",
		"stage a(){emit " + rep("(", api.MaxOpen) + "1" + rep(")", api.MaxOpen) + ";}",
		"stage a(){emit " + rep("-", api.MaxTerms-1) + "1;}",
		"# x\nstage a(b send send send int,c int){chan d e recv recv recv int 999999999999999999;spawn f(1,2,3,4,5,6);}" + rep("stage b(){}", api.MaxStages-1),
		"stage a(){" + rep("emit 1;", api.MaxStmts) + "}",
		"stage a(){" + rep("if 1{", api.MaxDepth-1) + "emit 1;" + rep("}", api.MaxDepth-1) + "}",
		"stage a(){" + rep("if 1{", api.MaxDepth-1) + rep("emit 1;", api.MaxStmts-api.MaxDepth+1) + rep("}else{}", api.MaxDepth-1) + "}",
		sampleText,
	} {
		p, f := syntax.Parse(src)
		if f.Code != 0 {
			t.Fatalf("Parse(%q): %v", short(src), f)
		}
		printed(t, p)
	}
	// Here the tabs and the lines are what makes it too long.
	long := "stage a(){" + rep("if 1{", api.MaxDepth-1) + rep("spawn f(a+1,b+2,c+3,d+4,e+5,f+6);", api.MaxStmts-api.MaxDepth+1) + rep("}", api.MaxDepth-1) + "}"
	p, f := syntax.Parse(long)
	if f.Code != 0 {
		t.Fatalf("Parse(%q): %v", short(long), f)
	}
	wantFault(t, p, api.ErrSize, -1)
}

// squeezed leaves out the blanks that a text doesn't need.
func squeezed(text string) string {
	text = strings.NewReplacer("\n", " ", "\t", " ").Replace(text)
	for _, sign := range strings.Fields("( ) { } , ; + - * < ==") {
		for _, with := range []string{" " + sign, sign + " "} {
			for strings.Contains(text, with) {
				text = strings.ReplaceAll(text, with, sign)
			}
		}
	}
	return text
}

// What follows: texts that Print did not write, of programs that are too long
// as well.
func TestPrintOfTextsThatWereSqueezed(t *testing.T) {
	for _, p := range somePrograms(400) {
		q, f := syntax.Parse(squeezed(slowText(p)))
		if f.Code != 0 {
			continue
		}
		if got := Check(q); got != fault(0, 0) && got != fault(api.ErrSize, -1) {
			t.Fatalf("Check of what Parse tells: %v", got)
		}
		if text, _ := Print(q); text != "" {
			wantText(t, p, text)
		}
	}
}

// What follows: programs have one text just if they are the same.
func TestPrintTellsProgramsApart(t *testing.T) {
	m := &maker{Rand: rand.New(rand.NewSource(6))}
	alike, apart := 0, 0
	for _, p := range somePrograms(1500) {
		q := twin(p)
		for range m.Intn(3) {
			spoilAny(m, &q)
		}
		first, f := Print(p)
		second, g := Print(q)
		if f.Code != 0 || g.Code != 0 {
			continue
		}
		if same := syntax.Same(p, q); same != (first == second) {
			t.Fatalf("%q and %q: %v, want %v", short(first), short(second), first == second, same)
		}
		if first == second {
			alike++
		} else {
			apart++
		}
	}
	if alike < 100 || apart < 100 {
		t.Errorf("%d alike, %d apart", alike, apart)
	}
	all := somePrograms(200)
	for i, p := range all {
		for _, q := range all[:i] {
			first, f := Print(p)
			second, g := Print(q)
			if f.Code == 0 && g.Code == 0 && syntax.Same(p, q) != (first == second) {
				t.Fatalf("%q and %q", short(first), short(second))
			}
		}
	}
}

// What follows: places and empty lists make no other text.
func TestPrintOfPlacesAndEmptyLists(t *testing.T) {
	p := twin(sample())
	for i := range p.Stages {
		p.Stages[i].At = math.MinInt
		if p.Stages[i].Params == nil {
			p.Stages[i].Params = []api.Param{}
		}
	}
	for i, s := range stmtsOf(&p) {
		s.At = i - 3
		s.E, s.Body, s.Else = slices.Concat([]api.Expr{}, s.E), slices.Concat([]api.Stmt{}, s.Body), slices.Concat([]api.Stmt{}, s.Else)
	}
	wantText(t, p, sampleText)
}

// What holds everywhere: what is handed in is not changed, and what lies
// behind a list's length is neither read nor written.
func TestWhatIsHandedInStays(t *testing.T) {
	all := append(somePrograms(100), sample(), longer(), ofSize(api.MaxText+1))
	for _, s := range spoils() {
		p := longer()
		s.do(&p)
		all = append(all, p)
	}
	for _, p := range all {
		given := twin(p)
		before := wholeLists(reflect.ValueOf(given), nil)
		text, f := Print(given)
		if got := Check(given); got != f {
			t.Fatalf("Check: %v, Print: %v", got, f)
		}
		if !reflect.DeepEqual(wholeLists(reflect.ValueOf(given), nil), before) {
			t.Fatalf("Print(%s) changed it", shown(p))
		}
		fillBehind(reflect.ValueOf(given))
		if again, g := Print(given); again != text || g != f {
			t.Fatalf("Print(%s): %q %v, and then %q %v", shown(p), short(text), f, short(again), g)
		}
	}
}

// wholeLists copies all lists up to their capacity.
func wholeLists(v reflect.Value, out []any) []any {
	switch v.Kind() {
	case reflect.Slice:
		whole := reflect.MakeSlice(v.Type(), v.Cap(), v.Cap())
		reflect.Copy(whole, v.Slice(0, v.Cap()))
		out = append(out, whole.Interface())
		for i := range v.Len() {
			out = wholeLists(v.Index(i), out)
		}
	case reflect.Struct:
		for i := range v.NumField() {
			out = wholeLists(v.Field(i), out)
		}
	}
	return out
}

// fillBehind lays copies of a list's first element behind its length.
func fillBehind(v reflect.Value) {
	switch v.Kind() {
	case reflect.Slice:
		for i := range v.Len() {
			fillBehind(v.Index(i))
		}
		for i := v.Len(); v.Len() > 0 && i < v.Cap(); i++ {
			v.Slice(0, v.Cap()).Index(i).Set(v.Index(0))
		}
	case reflect.Struct:
		for i := range v.NumField() {
			fillBehind(v.Field(i))
		}
	}
}

// What holds everywhere: a text stays as it is, whatever is done to the
// program behind it.
func TestPrintKeepsNothing(t *testing.T) {
	p := twin(sample())
	text := printed(t, p)
	for _, s := range stmtsOf(&p) {
		s.A, s.B = "zzz", "zzz"
		clear(s.E)
	}
	clear(p.Stages)
	if text != sampleText {
		t.Errorf("the text is %q", text)
	}
	wantText(t, sample(), sampleText)
}

// P1
func FuzzPrint(f *testing.F) {
	for i := range int64(20) {
		f.Add(i, uint8(i%5))
	}
	f.Fuzz(func(t *testing.T, seed int64, spoilt uint8) {
		m := &maker{rand.New(rand.NewSource(seed)), 40}
		p := twin(m.program())
		for range spoilt % 16 {
			spoilAny(m, &p)
		}
		if got, want := Check(p), slowCheck(p); got != want {
			t.Fatalf("Check(%s): %v, want %v", shown(p), got, want)
		} else if want.Code == 0 {
			wantText(t, p, slowText(p))
		} else {
			wantFault(t, p, want.Code, want.At)
		}
	})
}
