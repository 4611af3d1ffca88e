package tree

import (
	"fmt"
	"reflect"
	"sync"
	"testing"
	"unsafe"

	"pipewright/api"
)

// manyCodes have trees, or faults of all kinds.
func manyCodes(t *testing.T) []api.Code {
	all := append(someCodes(61, 60, 12), someCodes(62, 60, 60)...)
	for _, src := range programs {
		all = append(all, lowered(t, src))
	}
	base := lowered(t, wide)
	all = append(all, base, flat(29, 29), flat(30, 2), flat(2, 30))
	for k, s := range spoils(base) {
		if k%9 == 0 {
			all = append(all, changed(base, s.do))
		}
	}
	return all
}

// What holds everywhere: what is handed in is not changed, and what lies behind
// a list's length is neither read nor written.
func TestCodesStay(t *testing.T) {
	for _, c := range manyCodes(t) {
		given := twin(c)
		before := wholeLists(reflect.ValueOf(given), nil)
		g, f := Grow(given)
		if !reflect.DeepEqual(wholeLists(reflect.ValueOf(given), nil), before) {
			t.Fatalf("Grow(%s) changed it", said(c))
		}
		fillBehind(reflect.ValueOf(given))
		before = wholeLists(reflect.ValueOf(given), nil)
		again, h := Grow(given)
		if h != f || !reflect.DeepEqual(again, g) {
			t.Fatalf("Grow(%s): %v %s, and then %v %s", said(c), f, shown(g), h, shown(again))
		}
		if !reflect.DeepEqual(wholeLists(reflect.ValueOf(given), nil), before) {
			t.Fatalf("Grow(%s) wrote behind its lists", said(c))
		}
	}
}

// wholeLists copies all lists up to their capacity.
func wholeLists(v reflect.Value, out []any) []any {
	switch v.Kind() {
	case reflect.Slice:
		whole := reflect.MakeSlice(v.Type(), v.Cap(), v.Cap())
		reflect.Copy(whole, v.Slice(0, v.Cap()))
		out = append(out, whole.Interface())
		for i := range v.Len() {
			out = wholeLists(v.Index(i), out)
		}
	case reflect.Struct:
		for i := range v.NumField() {
			out = wholeLists(v.Field(i), out)
		}
	}
	return out
}

// fillBehind lays copies of a list's first element behind its length.
func fillBehind(v reflect.Value) {
	switch v.Kind() {
	case reflect.Slice:
		for i := range v.Len() {
			fillBehind(v.Index(i))
		}
		for i := v.Len(); v.Len() > 0 && i < v.Cap(); i++ {
			v.Slice(0, v.Cap()).Index(i).Set(v.Index(0))
		}
	case reflect.Struct:
		for i := range v.NumField() {
			fillBehind(v.Field(i))
		}
	}
}

// P1: the same code gives the same tree, however often it is asked, behind
// whatever else, and while others ask: a map's order shows nowhere.
func TestSameAgain(t *testing.T) {
	all := manyCodes(t)
	for n, c := range all {
		want, f := Grow(c)
		check := func() {
			if g, h := Grow(c); h != f || !reflect.DeepEqual(g, want) {
				t.Errorf("Grow(%s): %v %s, and then %v %s", said(c), f, shown(want), h, shown(g))
			}
		}
		for range 30 {
			check()
		}
		Grow(all[(n+1)%len(all)])
		check()
		var others sync.WaitGroup
		for range 4 {
			others.Go(check)
		}
		others.Wait()
	}
}

// P1: of many tasks and channels, with lists that lean on one another.
func TestSameAgainOfMany(t *testing.T) {
	c := crowded(20)
	want := grown(t, c)
	for range 200 {
		if g := grown(t, c); !reflect.DeepEqual(g, want) {
			t.Fatalf("%s, and then %s", toldMay(want), toldMay(g))
		}
	}
}

// What holds everywhere: a list without elements is the same, nil or empty.
func TestNilAndEmpty(t *testing.T) {
	for _, c := range manyCodes(t) {
		want, f := Grow(c)
		given := twin(c)
		emptied(reflect.ValueOf(&given).Elem())
		if g, h := Grow(given); h != f || fmt.Sprint(g) != fmt.Sprint(want) {
			t.Fatalf("Grow(%s): %v %s, and then %v %s", said(c), f, shown(want), h, shown(g))
		}
	}
}

// emptied makes all nil lists empty ones.
func emptied(v reflect.Value) {
	switch v.Kind() {
	case reflect.Slice:
		if v.IsNil() {
			v.Set(reflect.MakeSlice(v.Type(), 0, 0))
		}
		for i := range v.Len() {
			emptied(v.Index(i))
		}
	case reflect.Struct:
		for i := range v.NumField() {
			emptied(v.Field(i))
		}
	}
}

// span is where a list, or a text, lies, with all that it has room for.
type span struct {
	from, to uintptr
	what     string
}

// spans tells of all lists and texts that have any memory.
func spans(v reflect.Value, out []span) []span {
	switch v.Kind() {
	case reflect.Slice:
		if size := v.Type().Elem().Size() * uintptr(v.Cap()); size > 0 {
			out = append(out, span{v.Pointer(), v.Pointer() + size, fmt.Sprint(v.Type())})
		}
		for i := range v.Len() {
			out = spans(v.Index(i), out)
		}
	case reflect.String:
		if s := v.String(); s != "" {
			at := uintptr(unsafe.Pointer(unsafe.StringData(s)))
			out = append(out, span{at, at + uintptr(len(s)), "the text " + s})
		}
	case reflect.Struct:
		for i := range v.NumField() {
			out = spans(v.Field(i), out)
		}
	}
	return out
}

func wantApart(t *testing.T, a, b span) {
	t.Helper()
	if a.from < b.to && b.from < a.to {
		t.Fatalf("%s and %s share memory", a.what, b.what)
	}
}

// What holds everywhere: what is answered is new memory, and no two lists of it
// share any.
func TestTreeOfItsOwnMemory(t *testing.T) {
	for _, c := range manyCodes(t) {
		c = twin(c)
		g, _ := Grow(c)
		other, _ := Grow(c)
		given := spans(reflect.ValueOf(c), nil)
		told := spans(reflect.ValueOf(g), nil)
		for i, a := range told {
			for _, b := range told[i+1:] {
				wantApart(t, a, b)
			}
			for _, b := range given {
				wantApart(t, a, b)
			}
		}
		for _, b := range spans(reflect.ValueOf(other), nil) {
			for _, a := range told {
				// A text that is written out in the program is nobody's own.
				if b.what != "the text i" {
					wantApart(t, a, b)
				}
			}
		}
	}
}

// What holds everywhere: an answer stays as it is, whatever is done to the code
// behind it, and to another answer.
func TestGrowKeepsNothing(t *testing.T) {
	for _, c := range manyCodes(t) {
		c = twin(c)
		g, f := Grow(c)
		want := fmt.Sprint(g)
		other, _ := Grow(c)
		wipe(reflect.ValueOf(other))
		if again, h := Grow(c); h != f || fmt.Sprint(again) != want {
			t.Fatalf("Grow(%s): %v %s, and then %v %s", said(c), f, short(want), h, shown(again))
		}
		wipe(reflect.ValueOf(c))
		if got := fmt.Sprint(g); got != want {
			t.Fatalf("%s became %s", short(want), short(got))
		}
	}
}

// wipe makes all that lists hold zero, up to their capacity.
func wipe(v reflect.Value) {
	switch v.Kind() {
	case reflect.Slice:
		for i := range v.Len() {
			wipe(v.Index(i))
		}
		if v.Cap() > 0 {
			v.Slice(0, v.Cap()).Clear()
		}
	case reflect.Struct:
		for i := range v.NumField() {
			wipe(v.Field(i))
		}
	}
}
