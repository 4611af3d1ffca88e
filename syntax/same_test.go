package syntax

import (
	"math/rand"
	"reflect"
	"testing"

	"pipewright/api"
)

// allFields has something in each field of each kind of thing, also in those
// that a kind does not have.
func allFields() api.Program {
	x := func(n int64) api.Expr {
		return api.Expr{Op: 7, Name: "x", N: n, L: es(api.Expr{Op: 1, Name: "y", N: 2, L: es(num(3))}, name("z"))}
	}
	s := func(n int) api.Stmt {
		return api.Stmt{Do: 1, At: 2, A: "a", B: "b", T: "i", N: n, E: es(x(1), x(2))}
	}
	deep := func(n int) api.Stmt {
		out := s(n)
		out.Body, out.Else = []api.Stmt{s(1), s(2)}, []api.Stmt{s(3), s(4)}
		return out
	}
	top := deep(9)
	top.Body, top.Else = []api.Stmt{deep(5), deep(6)}, []api.Stmt{deep(7), deep(8)}
	stage := api.Stage{Name: "m", At: 4, Params: []api.Param{{Name: "p", T: "ri"}, {Name: "q", T: "i"}}, Body: []api.Stmt{top, deep(1)}}
	return api.Program{Stages: []api.Stage{stage, {Name: "n", At: 5, Body: []api.Stmt{s(1)}}}}
}

// changes calls told with each thing of one field changed, and back again.
func changes(v reflect.Value, field string, told func(field string)) {
	switch v.Kind() {
	case reflect.Int, reflect.Int64:
		v.SetInt(v.Int() + 1)
		told(field)
		v.SetInt(v.Int() - 1)
	case reflect.String:
		was := v.String()
		for _, text := range []string{was + "0", "", "k" + was} {
			if text != was {
				v.SetString(text)
				told(field)
			}
		}
		v.SetString(was)
	case reflect.Slice:
		was := reflect.ValueOf(v.Interface())
		elem := reflect.New(v.Type().Elem()).Elem()
		v.Set(reflect.Append(was.Slice3(0, was.Len(), was.Len()), elem))
		told("longer")
		if was.Len() > 0 {
			v.Set(was.Slice(0, was.Len()-1))
			told("shorter")
			v.Set(was.Slice(1, was.Len()))
			told("shorter")
			v.SetZero()
			told("none")
		}
		v.Set(was)
		for i := range v.Len() {
			changes(v.Index(i), field, told)
		}
	case reflect.Struct:
		for i := range v.NumField() {
			changes(v.Field(i), v.Type().Field(i).Name, told)
		}
	}
}

// P3.2: all but places, at any depth.
func TestSameAsksForAllButPlaces(t *testing.T) {
	a, b := allFields(), allFields()
	if !Same(a, b) || !Same(a, a) {
		t.Fatalf("a program is not the same as itself")
	}
	fields := map[string]int{}
	changes(reflect.ValueOf(&b).Elem(), "", func(field string) {
		fields[field]++
		want := field == "At"
		if Same(a, b) != want || Same(b, a) != want {
			t.Errorf("Same with another %s: %v, want %v", field, !want, want)
		}
	})
	for _, field := range []string{"Name", "At", "T", "Do", "A", "B", "N", "Op", "longer", "shorter", "none"} {
		if fields[field] == 0 {
			t.Errorf("no %s was changed", field)
		}
	}
	if !Same(a, b) {
		t.Errorf("a program that was changed and changed back is not the same")
	}
}

func empty(v reflect.Value) {
	switch v.Kind() {
	case reflect.Slice:
		if v.Len() == 0 {
			v.Set(reflect.MakeSlice(v.Type(), 0, 2))
		}
		for i := range v.Len() {
			empty(v.Index(i))
		}
	case reflect.Struct:
		for i := range v.NumField() {
			empty(v.Field(i))
		}
	}
}

// P3.2
func TestSameTakesListsWithoutElementsForOne(t *testing.T) {
	for _, made := range []func() api.Program{
		func() api.Program { return api.Program{} },
		func() api.Program { return api.Program{Stages: []api.Stage{{Name: "a"}}} },
		allFields,
		func() api.Program { return parsed(t, sample) },
	} {
		without, with := made(), made()
		bare(reflect.ValueOf(&without).Elem())
		empty(reflect.ValueOf(&with).Elem())
		if !Same(without, with) || !Same(with, without) || !Same(with, with) {
			t.Errorf("with lists that are nil, and such that are empty, %+v is not the same", without)
		}
	}
	if Same(api.Program{}, api.Program{Stages: []api.Stage{{}}}) || Same(api.Program{Stages: []api.Stage{{}}}, api.Program{}) {
		t.Errorf("a stage with nothing in it is taken for none")
	}
}

// P3.2: of texts.
func TestSameOfTexts(t *testing.T) {
	same := func(first, second string, want bool) {
		t.Helper()
		a, b := parsed(t, first), parsed(t, second)
		if Same(a, b) != want || Same(b, a) != want {
			t.Errorf("Same of %q and %q: %v, want %v", first, second, !want, want)
		}
	}
	same("stage a(){}", "\n stage a ( ) { } # x", true)
	same(stage("take x from r{if x{}}else{set x=1;}"), stage(" take x from r {\n if (x) { } else { } } else { set x = ((1)); } "), true)
	same(stage("emit 1-2-3;"), stage("emit (1-2)-3;"), true)
	same(stage("emit 1-2-3;"), stage("emit 1-(2-3);"), false)
	same(stage("emit -1;"), stage("emit 1;"), false)
	same(stage("emit 1<2;"), stage("emit 1==2;"), false)
	same(stage("let b=1;"), stage("set b=1;"), false)
	same(stage("close b;"), stage("close c;"), false)
	same(stage("if 1{emit 2;}else{}"), stage("if 1{}else{emit 2;}"), false)
	same(stage("if 1{emit 2;}"), stage("if 1{}emit 2;"), false)
	same("stage a(b int){}", "stage a(c int){}", false)
	same("stage a(b int){}", "stage a(b send int){}", false)
	same("stage a(){}stage b(){}", "stage b(){}stage a(){}", false)
	same("stage a(){}", "stage a(){}stage a(){}", false)
	same(stage("spawn b(1,2);"), stage("spawn b(1);"), false)
	same(stage("chan b c int 1;"), stage("chan b c int 2;"), false)
	same(stage("clone b c;"), stage("clone c b;"), false)
}

// What holds everywhere: what lies behind a list's length is not looked at,
// and what is handed in stays as it is.
func TestSameAndCountLeaveWhatIsHandedIn(t *testing.T) {
	cut := func(last string) api.Program {
		body := []api.Stmt{drain(1, "a"), drain(2, last)}
		exprs := es(num(1), name(last))
		body[0].E = exprs[:1]
		return api.Program{Stages: []api.Stage{{Name: "a", Body: body[:1]}, {Name: last}}[:1]}
	}
	a, b := cut("x"), cut("y")
	if !Same(a, b) || Count(a) != 1 {
		t.Errorf("what lies behind a list's length was looked at")
	}
	if !alike(a, cut("x")) || !alike(b, cut("y")) || a.Stages[:2][1].Name != "x" || a.Stages[0].Body[:2][1].A != "x" {
		t.Errorf("what was handed in was changed")
	}
	full := allFields()
	Same(full, allFields())
	Count(full)
	if !reflect.DeepEqual(full, allFields()) {
		t.Errorf("what was handed in was changed")
	}
}

// P3.3
func TestCount(t *testing.T) {
	count := func(p api.Program, want int) {
		t.Helper()
		if got := Count(p); got != want {
			t.Errorf("Count(%+v): %d, want %d", p, got, want)
		}
	}
	count(api.Program{}, 0)
	count(api.Program{Stages: []api.Stage{}}, 0)
	count(parsed(t, "stage a(){}"), 0)
	count(parsed(t, "stage a(){}stage b(){}"), 0)
	count(parsed(t, "stage a(){emit 1;}stage b(){}stage c(){emit 1;emit 2;}"), 3)
	count(parsed(t, stage("take x from r{if x{}}else{set x=1;}")), 3)
	count(parsed(t, stage("if 1{if 2{emit 3;emit 4;}else{emit 5;}}else{repeat 6{emit 7;}emit 8;}emit 9;")), 9)
	count(parsed(t, stage("for x from r{take x from r{}else{repeat 2{drain r;}}}")), 4)
	count(parsed(t, sample), 25)
	count(allFields(), 1+4*5+5+1)
	// A Body counts, too, where the kind has none.
	count(api.Program{Stages: []api.Stage{{Body: []api.Stmt{{Body: []api.Stmt{{Else: []api.Stmt{{}, {}}}}}}}}}, 4)
}

func nested(depth int, last string) api.Program {
	x, s := name(last), api.Stmt{Do: api.DoEmit}
	for i := range depth {
		x = neg(x)
		if i%2 == 0 {
			s = api.Stmt{Do: api.DoIf, Body: []api.Stmt{s}}
		} else {
			s = api.Stmt{Do: api.DoIf, Else: []api.Stmt{s}}
		}
	}
	return api.Program{Stages: []api.Stage{{Body: []api.Stmt{{Do: api.DoEmit, E: es(x)}, s}}}}
}

// P1: as deep as the promises go.
func TestSameAndCountOfTheDeepest(t *testing.T) {
	const depth = 1<<16 - 8
	a, b, c := nested(depth, "x"), nested(depth, "x"), nested(depth, "y")
	if !Same(a, b) || Same(a, c) || Same(a, nested(depth-1, "x")) {
		t.Errorf("Same of programs nested %d deep", depth)
	}
	if got := Count(a); got != depth+2 {
		t.Errorf("Count: %d, want %d", got, depth+2)
	}
}

// P3.2: programs that were made are the same just if all but places is alike.
func TestSameOfProgramsThatWereMade(t *testing.T) {
	programs, srcs := somePrograms(150)
	w := &writer{Rand: rand.New(rand.NewSource(5))}
	for i, src := range srcs {
		p, moved := parsed(t, src), parsed(t, "\n# x\n"+src)
		if !Same(p, moved) || !Same(moved, programs[i]) {
			t.Fatalf("further behind, %q is another program", short(src))
		}
		if other := w.program(unplaced(p)); len(other) <= api.MaxText && !Same(p, parsed(t, other)) {
			t.Fatalf("written anew, %q is another program", short(src))
		}
		if i > 0 && Same(p, programs[i-1]) != alike(unplaced(p), unplaced(programs[i-1])) {
			t.Fatalf("Same of %q and %q", short(src), short(srcs[i-1]))
		}
	}
}
