package order

import (
	"fmt"
	"reflect"
	"sync"
	"testing"
	"unsafe"

	"pipewright/api"
)

// manyCodes have waits and none, rounds and ranks, notes and none, or faults.
func manyCodes(t *testing.T) []api.Code {
	all := append(someCodes(91, 60, 12), someCodes(92, 30, 40)...)
	for _, src := range somePrograms(93, 80) {
		all = append(all, lowered(t, src))
	}
	base := lowered(t, wide)
	all = append(all, base, ring(7, ""), wired(3, "f12", "g23"), flat(29, 29), flat(30, 2), flat(2, 30))
	for k, s := range spoils(base) {
		if k%40 == 0 {
			all = append(all, changed(base, s.do))
		}
	}
	return all
}

// wholeLists copies all lists up to their capacity.
func wholeLists(v reflect.Value, out []any) []any {
	switch v.Kind() {
	case reflect.Slice:
		whole := reflect.MakeSlice(v.Type(), v.Cap(), v.Cap())
		reflect.Copy(whole, v.Slice(0, v.Cap()))
		out = append(out, whole.Interface())
		for i := range v.Len() {
			out = wholeLists(v.Index(i), out)
		}
	case reflect.Struct:
		for i := range v.NumField() {
			out = wholeLists(v.Field(i), out)
		}
	}
	return out
}

// fillBehind lays copies of a list's first element behind its length.
func fillBehind(v reflect.Value) {
	switch v.Kind() {
	case reflect.Slice:
		for i := range v.Len() {
			fillBehind(v.Index(i))
		}
		for i := v.Len(); v.Len() > 0 && i < v.Cap(); i++ {
			v.Slice(0, v.Cap()).Index(i).Set(v.Index(0))
		}
	case reflect.Struct:
		for i := range v.NumField() {
			fillBehind(v.Field(i))
		}
	}
}

// What holds everywhere: what is handed in is not changed, and what lies behind
// a list's length is neither read nor written.
func TestCodesStay(t *testing.T) {
	for _, c := range manyCodes(t) {
		given := twin(c)
		before := wholeLists(reflect.ValueOf(given), nil)
		a := answers(given)
		if !reflect.DeepEqual(wholeLists(reflect.ValueOf(given), nil), before) {
			t.Fatalf("%s is changed", said(c))
		}
		fillBehind(reflect.ValueOf(given))
		before = wholeLists(reflect.ValueOf(given), nil)
		if again := answers(given); !alike(again, a) {
			t.Fatalf("of %s: %s, and then %s", said(c), shown(a), shown(again))
		}
		if !reflect.DeepEqual(wholeLists(reflect.ValueOf(given), nil), before) {
			t.Fatalf("behind the lists of %s something is changed", said(c))
		}
	}
}

// What holds everywhere: the same of what Fine is handed.
func TestVerdictsStay(t *testing.T) {
	for _, c := range manyCodes(t) {
		v, _ := Judge(c)
		given := twin(v)
		fillBehind(reflect.ValueOf(given))
		before := wholeLists(reflect.ValueOf(given), nil)
		if Fine(given) != Fine(v) || !reflect.DeepEqual(wholeLists(reflect.ValueOf(given), nil), before) {
			t.Fatalf("%s is changed", shown(v))
		}
	}
	v := api.Verdict{Notes: make([][]api.Note, 1, 3), Round: make([]api.Wait, 0, 3)}
	v.Notes[0] = make([]api.Note, 0, 2)
	v.Notes[:2][1] = make([]api.Note, 2)
	if !Fine(v) {
		t.Error("what lies behind a list's length is looked at")
	}
}

// P1: the same code gives the same, however often it is asked, behind whatever
// else, and while others ask.
func TestSameAgain(t *testing.T) {
	all := manyCodes(t)
	for n, c := range all {
		want := answers(c)
		check := func() {
			if a := answers(c); !alike(a, want) {
				t.Errorf("of %s: %s, and then %s", said(c), shown(want), shown(a))
			}
		}
		for range 3 {
			check()
		}
		answers(all[(n+1)%len(all)])
		check()
		var others sync.WaitGroup
		for range 4 {
			others.Go(check)
		}
		others.Wait()
	}
}

// What holds everywhere: a list without elements is the same, nil or empty.
func TestNilAndEmpty(t *testing.T) {
	for _, c := range manyCodes(t) {
		want := answers(c)
		given := twin(c)
		emptied(reflect.ValueOf(&given).Elem())
		if a := answers(given); !alike(a, want) {
			t.Fatalf("of %s: %s, and then %s", said(c), shown(want), shown(a))
		}
		v := twin(want.verdict)
		emptied(reflect.ValueOf(&v).Elem())
		if Fine(v) != Fine(want.verdict) {
			t.Fatalf("Fine(%s) is another", shown(v))
		}
	}
}

// emptied makes all nil lists empty ones.
func emptied(v reflect.Value) {
	switch v.Kind() {
	case reflect.Slice:
		if v.IsNil() {
			v.Set(reflect.MakeSlice(v.Type(), 0, 0))
		}
		for i := range v.Len() {
			emptied(v.Index(i))
		}
	case reflect.Struct:
		for i := range v.NumField() {
			emptied(v.Field(i))
		}
	}
}

// span is where a list, or a text, lies, with all that it has room for.
type span struct {
	from, to uintptr
	what     string
}

// spans tells of all lists and texts that have any memory.
func spans(v reflect.Value, out []span) []span {
	switch v.Kind() {
	case reflect.Slice:
		if size := v.Type().Elem().Size() * uintptr(v.Cap()); size > 0 {
			out = append(out, span{v.Pointer(), v.Pointer() + size, fmt.Sprint(v.Type())})
		}
		for i := range v.Len() {
			out = spans(v.Index(i), out)
		}
	case reflect.String:
		if s := v.String(); s != "" {
			at := uintptr(unsafe.Pointer(unsafe.StringData(s)))
			out = append(out, span{at, at + uintptr(len(s)), "the text " + s})
		}
	case reflect.Struct:
		for i := range v.NumField() {
			out = spans(v.Field(i), out)
		}
	}
	return out
}

func wantApart(t *testing.T, a, b span) {
	t.Helper()
	// A text that is written out in the program is nobody's own.
	if a.from < b.to && b.from < a.to && a.what != "the text i" {
		t.Fatalf("%s and %s share memory", a.what, b.what)
	}
}

// spansOf are those of an answer.
func spansOf(a answer) []span {
	list := spans(reflect.ValueOf(a.waits), nil)
	list = spans(reflect.ValueOf(a.tree), list)
	return spans(reflect.ValueOf(a.verdict), list)
}

// What holds everywhere: what is answered is new memory, and no two lists of it
// share any.
func TestAnswersOfTheirOwnMemory(t *testing.T) {
	for _, c := range manyCodes(t) {
		c = twin(c)
		// All of it is there ahead of all spans: else memory that nobody has any more
		// may be another's.
		one, two := answers(c), answers(c)
		given, first, other := spans(reflect.ValueOf(c), nil), spansOf(one), spansOf(two)
		for i, a := range first {
			for _, b := range first[i+1:] {
				wantApart(t, a, b)
			}
			for _, b := range append(given, other...) {
				wantApart(t, a, b)
			}
		}
	}
}

// What holds everywhere: an answer stays as it is, whatever is done to the code
// behind it, and to another answer.
func TestNothingIsKept(t *testing.T) {
	for _, c := range manyCodes(t) {
		c = twin(c)
		a := answers(c)
		want := fmt.Sprint(a)
		other := answers(c)
		wipe(reflect.ValueOf(other.waits))
		wipe(reflect.ValueOf(other.tree))
		wipe(reflect.ValueOf(other.verdict))
		if again := answers(c); fmt.Sprint(again) != want {
			t.Fatalf("of %s: %s, and then %s", said(c), short(want), shown(again))
		}
		wipe(reflect.ValueOf(c))
		if got := fmt.Sprint(a); got != want {
			t.Fatalf("%s became %s", short(want), short(got))
		}
	}
}

// wipe makes all that lists hold zero, up to their capacity.
func wipe(v reflect.Value) {
	switch v.Kind() {
	case reflect.Slice:
		for i := range v.Len() {
			wipe(v.Index(i))
		}
		if v.Cap() > 0 {
			v.Slice(0, v.Cap()).Clear()
		}
	case reflect.Struct:
		for i := range v.NumField() {
			wipe(v.Field(i))
		}
	}
}
