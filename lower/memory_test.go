package lower

import (
	"fmt"
	"reflect"
	"testing"
	"unsafe"

	"pipewright/api"
)

func manyPrograms(t *testing.T) []api.Program {
	all := append(somePrograms(10, 80), parsed(t, long))
	wrong := parsed(t, long)
	wrong.Stages[3].Body = append(wrong.Stages[3].Body, api.Stmt{Do: api.DoClose, A: "zz"})
	return append(all, wrong)
}

func manyCodes(t *testing.T) []api.Code {
	var all []api.Code
	for _, p := range manyPrograms(t) {
		c, _ := Lower(p)
		all = append(all, c)
	}
	for _, s := range spoils() {
		all = append(all, changed(lowered(t, long), s.do))
	}
	return all
}

// What holds everywhere: what is handed in is not changed, and what lies
// behind a list's length is neither read nor written.
func TestProgramsStay(t *testing.T) {
	for _, p := range manyPrograms(t) {
		given := twin(p)
		before := wholeLists(reflect.ValueOf(given), nil)
		c, f := Lower(given)
		if !reflect.DeepEqual(wholeLists(reflect.ValueOf(given), nil), before) {
			t.Fatalf("Lower(%s) changed it", shown(p))
		}
		fillBehind(reflect.ValueOf(given))
		again, g := Lower(given)
		if g != f || !sameCode(again, c) {
			t.Fatalf("Lower(%s): %v, and then %v", shown(p), f, g)
		}
	}
}

func TestCodesStay(t *testing.T) {
	for _, c := range manyCodes(t) {
		given := twin(c)
		before := wholeLists(reflect.ValueOf(given), nil)
		f := Check(given)
		if !reflect.DeepEqual(wholeLists(reflect.ValueOf(given), nil), before) {
			t.Fatalf("Check(%s) changed it", shown(c))
		}
		fillBehind(reflect.ValueOf(given))
		if g := Check(given); g != f {
			t.Fatalf("Check(%s): %v, and then %v", shown(c), f, g)
		}
	}
}

// wholeLists copies all lists up to their capacity.
func wholeLists(v reflect.Value, out []any) []any {
	switch v.Kind() {
	case reflect.Slice:
		whole := reflect.MakeSlice(v.Type(), v.Cap(), v.Cap())
		reflect.Copy(whole, v.Slice(0, v.Cap()))
		out = append(out, whole.Interface())
		for i := range v.Len() {
			out = wholeLists(v.Index(i), out)
		}
	case reflect.Struct:
		for i := range v.NumField() {
			out = wholeLists(v.Field(i), out)
		}
	}
	return out
}

// fillBehind lays copies of a list's first element behind its length.
func fillBehind(v reflect.Value) {
	switch v.Kind() {
	case reflect.Slice:
		for i := range v.Len() {
			fillBehind(v.Index(i))
		}
		for i := v.Len(); v.Len() > 0 && i < v.Cap(); i++ {
			v.Slice(0, v.Cap()).Index(i).Set(v.Index(0))
		}
	case reflect.Struct:
		for i := range v.NumField() {
			fillBehind(v.Field(i))
		}
	}
}

// span is where a list, or a text, lies, with all that it has room for.
type span struct {
	from, to uintptr
	what     string
}

// spans tells of all lists and texts that have any memory.
func spans(v reflect.Value, out []span) []span {
	switch v.Kind() {
	case reflect.Slice:
		if size := v.Type().Elem().Size() * uintptr(v.Cap()); size > 0 {
			out = append(out, span{v.Pointer(), v.Pointer() + size, fmt.Sprint(v.Type())})
		}
		for i := range v.Len() {
			out = spans(v.Index(i), out)
		}
	case reflect.String:
		if s := v.String(); s != "" {
			at := uintptr(unsafe.Pointer(unsafe.StringData(s)))
			out = append(out, span{at, at + uintptr(len(s)), s})
		}
	case reflect.Struct:
		for i := range v.NumField() {
			out = spans(v.Field(i), out)
		}
	}
	return out
}

func wantApart(t *testing.T, a, b span) {
	t.Helper()
	if a.from < b.to && b.from < a.to {
		t.Fatalf("%s and %s share memory", a.what, b.what)
	}
}

// What holds everywhere: what is answered is new memory, and no two lists of it
// share any.
func TestCodeOfItsOwnMemory(t *testing.T) {
	for _, p := range manyPrograms(t) {
		p = twin(p)
		// What is made anew is not a constant of the test's own.
		for _, s := range stmtsOf(&p) {
			s.T = string([]byte(s.T))
		}
		c, _ := Lower(p)
		other, _ := Lower(p)
		given := append(spans(reflect.ValueOf(p), nil), spans(reflect.ValueOf(other.Procs), nil)...)
		told := spans(reflect.ValueOf(c), nil)
		for i, a := range told {
			for _, b := range told[i+1:] {
				if a.what[0] == '[' && b.what[0] == '[' {
					wantApart(t, a, b)
				}
			}
			for _, b := range given {
				// A text that is written out in the program is nobody's own.
				if a.what != "i" {
					wantApart(t, a, b)
				}
			}
		}
	}
}

// What holds everywhere: an answer stays as it is, whatever is done to the
// program behind it, and to another answer.
func TestLowerKeepsNothing(t *testing.T) {
	for _, p := range manyPrograms(t) {
		p = twin(p)
		c, f := Lower(p)
		want := fmt.Sprint(c)
		other, _ := Lower(p)
		wipe(reflect.ValueOf(other))
		if again, g := Lower(p); g != f || fmt.Sprint(again) != want {
			t.Fatalf("Lower(%s): %v, and then %v", shown(p), f, g)
		}
		wipe(reflect.ValueOf(p))
		if got := fmt.Sprint(c); got != want {
			t.Fatalf("%s became %s", short(want), short(got))
		}
	}
}

// wipe makes all that lists hold zero, up to their capacity.
func wipe(v reflect.Value) {
	switch v.Kind() {
	case reflect.Slice:
		for i := range v.Len() {
			wipe(v.Index(i))
		}
		if v.Cap() > 0 {
			v.Slice(0, v.Cap()).Clear()
		}
	case reflect.Struct:
		for i := range v.NumField() {
			wipe(v.Field(i))
		}
	}
}
