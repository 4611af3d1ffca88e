package syntax

import (
	"math/rand"
	"reflect"
	"slices"
	"strconv"
	"strings"
	"testing"
	"unsafe"

	"pipewright/api"
	"pipewright/token"
)

// writer lays a program out as a text, and the places where its stages and
// statements come to stand into the program.
type writer struct {
	strings.Builder
	*rand.Rand
	last byte
}

func isRun(b byte) bool { return 'a' <= b && b <= 'z' || '0' <= b && b <= '9' }

// put writes tokens, with blanks between where they must be or as it comes.
func (w *writer) put(list ...string) {
	blanks := []string{" ", "\n", "\t", "\r", "  ", "# x; }\n"}
	for _, text := range list {
		if isRun(w.last) && isRun(text[0]) || w.Intn(3) == 0 {
			w.WriteString(blanks[w.Intn(len(blanks))])
		}
		w.WriteString(text)
		w.last = text[len(text)-1]
	}
}

// begin writes a first token, and tells where it stands.
func (w *writer) begin(text string) int {
	w.put(text)
	return w.Len() - len(text)
}

func (w *writer) typeOf(t string) {
	for _, b := range t {
		w.put(map[rune]string{'s': "send", 'r': "recv", 'i': "int"}[b])
	}
}

var opTexts = map[int]string{api.OpAdd: "+", api.OpSub: "-", api.OpMul: "*", api.OpLess: "<", api.OpEq: "=="}

// level: 0 of comparisons, 1 of sums, 2 of products, 3 of units.
func level(x api.Expr) int {
	return map[int]int{api.OpAdd: 1, api.OpSub: 1, api.OpMul: 2, api.OpLess: 0, api.OpEq: 0}[x.Op] + 3*b2i(len(x.L) < 2)
}

func b2i(b bool) int {
	if b {
		return 1
	}
	return 0
}

// expr writes brackets where they are needed, and sometimes where they aren't.
func (w *writer) expr(x api.Expr, least int) {
	if level(x) < least || w.Intn(8) == 0 {
		w.put("(")
		w.expr(x, 0)
		w.put(")")
		return
	}
	switch x.Op {
	case api.OpNum:
		w.put(strconv.FormatInt(x.N, 10))
	case api.OpName:
		w.put(x.Name)
	case api.OpNeg:
		w.put("-")
		w.expr(x.L[0], 3)
	default:
		left := max(level(x), 1)
		right := left + b2i(level(x) > 0)
		w.expr(x.L[0], left)
		w.put(opTexts[x.Op])
		w.expr(x.L[1], right)
	}
}

func (w *writer) block(block []api.Stmt) {
	w.put("{")
	for i := range block {
		w.stmt(&block[i])
	}
	w.put("}")
}

func (w *writer) stmt(s *api.Stmt) {
	word := strings.Fields("let set emit chan clone send close abandon drain spawn take for repeat if")[s.Do-1]
	s.At = w.begin(word)
	if s.A != "" {
		w.put(s.A)
	}
	switch s.Do {
	case api.DoLet, api.DoSet:
		w.put("=")
	case api.DoTake, api.DoFor:
		w.put("from")
	case api.DoSpawn:
		w.put("(")
	}
	if s.B != "" {
		w.put(s.B)
	}
	if s.Do == api.DoChan {
		w.typeOf(s.T)
		w.put(strconv.Itoa(s.N))
	}
	for i, x := range s.E {
		if i > 0 {
			w.put(",")
		}
		w.expr(x, 0)
	}
	if s.Do == api.DoSpawn {
		w.put(")")
	}
	if s.Do < api.DoTake {
		w.put(";")
		return
	}
	w.block(s.Body)
	if len(s.Else) > 0 || (s.Do == api.DoTake || s.Do == api.DoIf) && w.Intn(4) == 0 {
		w.put("else")
		w.block(s.Else)
	}
}

func (w *writer) program(p api.Program) string {
	w.Reset()
	w.last = ' '
	for i := range p.Stages {
		s := &p.Stages[i]
		s.At = w.begin("stage")
		w.put(s.Name, "(")
		for k, param := range s.Params {
			if k > 0 {
				w.put(",")
			}
			w.put(param.Name)
			w.typeOf(param.T)
		}
		w.put(")")
		w.block(s.Body)
	}
	return w.String()
}

// again: is it the program of that text? It is written once more, and held
// against the text's tokens, brackets and an else without statements left aside.
func again(t *testing.T, p api.Program, src string) bool {
	w := &writer{Rand: rand.New(rand.NewSource(1))}
	return slices.Equal(needed(texts(t, w.program(unplaced(p)))), needed(texts(t, src)))
}

func needed(list []string) []string {
	var out []string
	for _, text := range list {
		if text == "(" || text == ")" {
			continue
		}
		out = append(out, text)
		if n := len(out) - 3; n >= 0 && slices.Equal(out[n:], []string{"else", "{", "}"}) {
			out = out[:n]
		}
	}
	return out
}

// maker makes programs as they come.
type maker struct {
	*rand.Rand
	stmts int
}

func (m *maker) name() string {
	for {
		s := string([]byte{byte('a' + m.Intn(26))})
		for range m.Intn(4) {
			s += string("abcdefghijklmnopqrstuvwxyz0123456789"[m.Intn(36)])
		}
		if token.Name(s) {
			return s
		}
	}
}

func (m *maker) typeOf() string {
	t := ""
	for range m.Intn(api.MaxEnds + 1) {
		t += string("sr"[m.Intn(2)])
	}
	return t + "i"
}

// expr makes one of just so many parts.
func (m *maker) expr(parts int) api.Expr {
	switch {
	case parts == 1 && m.Intn(2) == 0:
		return num(m.Int63n(1 << m.Intn(50)))
	case parts == 1:
		return name(m.name())
	case parts == 2 || m.Intn(5) == 0:
		return neg(m.expr(parts - 1))
	}
	left := 1 + m.Intn(parts-2)
	return op(api.OpAdd+m.Intn(5), m.expr(left), m.expr(parts-1-left))
}

func (m *maker) exprs(n int) []api.Expr {
	var l []api.Expr
	for range n {
		l = append(l, m.expr(1+m.Intn(api.MaxTerms)))
	}
	return l
}

func (m *maker) block(depth int) []api.Stmt {
	var block []api.Stmt
	for m.stmts > 0 && m.Intn(5) > 0 {
		m.stmts--
		block = append(block, m.stmt(depth))
	}
	return block
}

func (m *maker) stmt(depth int) api.Stmt {
	s := api.Stmt{Do: 1 + m.Intn(api.DoIf)}
	if depth == api.MaxDepth {
		s.Do = 1 + m.Intn(api.DoSpawn)
	}
	switch s.Do {
	case api.DoEmit, api.DoRepeat, api.DoIf:
	default:
		s.A = m.name()
	}
	switch s.Do {
	case api.DoChan, api.DoClone, api.DoTake, api.DoFor:
		s.B = m.name()
	case api.DoSpawn:
		s.E = m.exprs(m.Intn(api.MaxParams + 1))
	case api.DoLet, api.DoSet, api.DoEmit, api.DoSend, api.DoRepeat, api.DoIf:
		s.E = m.exprs(1)
	}
	if s.Do == api.DoChan {
		s.T, s.N = m.typeOf(), m.Intn(9)
	}
	if s.Do >= api.DoTake {
		s.Body = m.block(depth + 1)
	}
	if s.Do == api.DoTake || s.Do == api.DoIf {
		s.Else = m.block(depth + 1)
	}
	return s
}

func (m *maker) program(stages int) api.Program {
	var p api.Program
	for range stages {
		s := api.Stage{Name: m.name()}
		for range m.Intn(api.MaxParams + 1) {
			s.Params = append(s.Params, api.Param{Name: m.name(), T: m.typeOf()})
		}
		s.Body = m.block(1)
		p.Stages = append(p.Stages, s)
	}
	return p
}

// somePrograms gives programs with a text of each.
func somePrograms(n int) (programs []api.Program, srcs []string) {
	source := rand.New(rand.NewSource(3))
	for len(programs) < n {
		m := &maker{source, 60}
		p := m.program(1 + m.Intn(api.MaxStages))
		src := (&writer{Rand: source}).program(p)
		if len(src) <= api.MaxText {
			programs, srcs = append(programs, p), append(srcs, src)
		}
	}
	return programs, srcs
}

// P3.1: what is written out of a program says that program, with its places.
func TestParseOfProgramsThatWereWritten(t *testing.T) {
	programs, srcs := somePrograms(1500)
	count := 0
	for i, src := range srcs {
		p, f := Parse(src)
		if f.Code != 0 || !alike(p, programs[i]) {
			t.Fatalf("Parse(%q): %+v %v, want %+v", short(src), p, f, programs[i])
		}
		if i < 200 {
			asFound(t, src)
		}
		_, begins := slowFault(src)
		if Count(p) != len(begins) {
			t.Fatalf("Count of %q: %d, want %d", src, Count(p), len(begins))
		}
		count += Count(p)
	}
	if count < 10000 {
		t.Errorf("%d statements alone in all", count)
	}
}

// P3.1: texts with a few tokens changed, against the second reader.
func TestParseOfProgramsThatWereSpoilt(t *testing.T) {
	source := rand.New(rand.NewSource(4))
	_, srcs := somePrograms(300)
	any := strings.Fields(anyToken)
	for _, src := range srcs {
		list := texts(t, src)
		for range 5 {
			spoilt := slices.Clone(list)
			for range 1 + source.Intn(3) {
				at, text := source.Intn(len(spoilt)), any[source.Intn(len(any))]
				switch source.Intn(4) {
				case 0:
					spoilt[at] = text
				case 1:
					spoilt = slices.Insert(spoilt, at, text)
				case 2:
					spoilt = slices.Delete(spoilt, at, at+1)
				default:
					to := min(len(spoilt), at+source.Intn(30))
					spoilt = slices.Insert(spoilt, to, spoilt[at:to]...)
				}
				if len(spoilt) == 0 {
					break
				}
			}
			if src := strings.Join(spoilt, " "); len(src) <= api.MaxText {
				asFound(t, src)
			}
		}
	}
}

// P3.1: two programs' texts one behind the other are a program of both.
func TestParseOfTwoTexts(t *testing.T) {
	programs, srcs := somePrograms(200)
	tried := 0
	for i := range len(srcs) - 1 {
		first, second := srcs[i], srcs[i+1]
		if len(programs[i].Stages)+len(programs[i+1].Stages) > api.MaxStages || len(first+second) >= api.MaxText {
			continue
		}
		tried++
		for _, between := range []string{"", "\n", "#\n"} {
			want := slices.Clone(programs[i].Stages)
			for _, s := range programs[i+1].Stages {
				by := len(first + between)
				s.At, s.Body = s.At+by, further(s.Body, by)
				want = append(want, s)
			}
			wantProgram(t, first+between+second, want...)
		}
	}
	if tried < 20 {
		t.Errorf("%d pairs of texts alone", tried)
	}
}

// memory is where a list lies, with what lies behind its length.
type memory struct{ begin, end uintptr }

func lists(v reflect.Value, out []memory) []memory {
	switch v.Kind() {
	case reflect.Slice:
		if v.Cap() > 0 {
			size := uintptr(v.Cap()) * v.Type().Elem().Size()
			out = append(out, memory{v.Pointer(), v.Pointer() + size})
		}
		for i := range v.Len() {
			out = lists(v.Index(i), out)
		}
	case reflect.Struct:
		for i := range v.NumField() {
			out = lists(v.Field(i), out)
		}
	}
	return out
}

func names(v reflect.Value, out []string) []string {
	switch v.Kind() {
	case reflect.String:
		out = append(out, v.String())
	case reflect.Slice:
		for i := range v.Len() {
			out = names(v.Index(i), out)
		}
	case reflect.Struct:
		for i := range v.NumField() {
			out = names(v.Field(i), out)
		}
	}
	return out
}

// What holds everywhere: no two lists of one answer, and of two answers, share
// memory; no text lies in what was handed in.
func TestProgramsAreNewMemory(t *testing.T) {
	_, srcs := somePrograms(50)
	for _, src := range append(srcs, sample) {
		first, second := parsed(t, src), parsed(t, src)
		all := lists(reflect.ValueOf(second), lists(reflect.ValueOf(first), nil))
		slices.SortFunc(all, func(a, b memory) int { return int(a.begin) - int(b.begin) })
		for i := range len(all) - 1 {
			if all[i].end > all[i+1].begin {
				t.Fatalf("Parse(%q): two lists share memory", src)
			}
		}
		begin := uintptr(unsafe.Pointer(unsafe.StringData(src)))
		for _, s := range names(reflect.ValueOf(first), nil) {
			if at := uintptr(unsafe.Pointer(unsafe.StringData(s))); s != "" && at >= begin && at < begin+uintptr(len(src)) {
				t.Fatalf("Parse(%q): the text %q lies in what was handed in", src, s)
			}
		}
	}
}

// P1: what is answered hangs on the text alone, not on what was done with
// another answer.
func TestParseAnswersAlike(t *testing.T) {
	want := parsed(t, sample)
	spoilt := parsed(t, sample)
	for i := range spoilt.Stages {
		s := &spoilt.Stages[i]
		_ = append(s.Params, api.Param{Name: "x"})
		_ = append(s.Body, api.Stmt{Do: 99})
		clear(s.Params)
		clear(s.Body)
		s.Name = "x"
	}
	Parse("stage a( {")
	if got := parsed(t, sample); !alike(got, want) {
		t.Errorf("the second answer: %+v, want %+v", got, want)
	}
}

// P1
func FuzzParse(f *testing.F) {
	_, srcs := somePrograms(20)
	for _, src := range append(srcs, "", sample, "stage a( {", "stage a(", "\x00\xff", "stage a(){emit "+rep("-", 61)) {
		f.Add(src)
	}
	f.Fuzz(func(t *testing.T, src string) { asFound(t, src) })
}
