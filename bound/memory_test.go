package bound

import (
	"fmt"
	"reflect"
	"sync"
	"testing"

	"pipewright/api"
)

// manyCodes have rounds and none, what is Cap and what is not, or faults.
func manyCodes(t *testing.T) []api.Code {
	all := append(someCodes(91, 120, 12, 5), someCodes(92, 60, 40, 12)...)
	for _, src := range append(somePrograms(93, 60), scribbled(94, 60)...) {
		all = append(all, lowered(t, src))
	}
	base := lowered(t, wide)
	all = append(all, base, code(ring(7, "send 1")), code(ring(3, "")), flat(29, 29), flat(30, 2), flat(2, 30))
	for k, s := range spoils(base) {
		if k%40 == 0 {
			all = append(all, changed(base, s.do))
		}
	}
	return all
}

// wholeLists copies all lists up to their capacity.
func wholeLists(v reflect.Value, out []any) []any {
	switch v.Kind() {
	case reflect.Slice:
		whole := reflect.MakeSlice(v.Type(), v.Cap(), v.Cap())
		reflect.Copy(whole, v.Slice(0, v.Cap()))
		out = append(out, whole.Interface())
		for i := range v.Len() {
			out = wholeLists(v.Index(i), out)
		}
	case reflect.Struct:
		for i := range v.NumField() {
			out = wholeLists(v.Field(i), out)
		}
	}
	return out
}

// fillBehind lays copies of a list's first element behind its length.
func fillBehind(v reflect.Value) {
	switch v.Kind() {
	case reflect.Slice:
		for i := range v.Len() {
			fillBehind(v.Index(i))
		}
		for i := v.Len(); v.Len() > 0 && i < v.Cap(); i++ {
			v.Slice(0, v.Cap()).Index(i).Set(v.Index(0))
		}
	case reflect.Struct:
		for i := range v.NumField() {
			fillBehind(v.Field(i))
		}
	}
}

// What holds everywhere: what is handed in is not changed, and what lies behind
// a list's length is neither read nor written.
func TestCodesStay(t *testing.T) {
	for k, c := range manyCodes(t) {
		inputs := manyInputs[k%len(manyInputs)]
		given := twin(c)
		before := wholeLists(reflect.ValueOf(given), nil)
		a := answers(given, inputs)
		if !reflect.DeepEqual(wholeLists(reflect.ValueOf(given), nil), before) {
			t.Fatalf("%s is changed", said(c))
		}
		fillBehind(reflect.ValueOf(given))
		before = wholeLists(reflect.ValueOf(given), nil)
		if again := answers(given, inputs); !alike(again, a) {
			t.Fatalf("of %s: %s, and then %s", said(c), shown(a), shown(again))
		}
		if !reflect.DeepEqual(wholeLists(reflect.ValueOf(given), nil), before) {
			t.Fatalf("behind the lists of %s something is changed", said(c))
		}
	}
}

// P1: the same code gives the same, however often it is asked, behind whatever
// else, and while others ask.
func TestSameAgain(t *testing.T) {
	all := manyCodes(t)
	for n, c := range all {
		inputs := manyInputs[n%len(manyInputs)]
		want := answers(c, inputs)
		check := func() {
			if a := answers(c, inputs); !alike(a, want) {
				t.Errorf("of %s: %s, and then %s", said(c), shown(want), shown(a))
			}
		}
		for range 3 {
			check()
		}
		answers(all[(n+1)%len(all)], inputs)
		answers(c, 9)
		check()
		var others sync.WaitGroup
		for range 4 {
			others.Go(check)
		}
		others.Wait()
	}
}

// What holds everywhere: a list without elements is the same, nil or empty.
func TestNilAndEmpty(t *testing.T) {
	for n, c := range manyCodes(t) {
		inputs := manyInputs[n%len(manyInputs)]
		want := answers(c, inputs)
		given := twin(c)
		emptied(reflect.ValueOf(&given).Elem())
		if a := answers(given, inputs); !alike(a, want) {
			t.Fatalf("of %s: %s, and then %s", said(c), shown(want), shown(a))
		}
	}
}

// emptied makes all nil lists empty ones.
func emptied(v reflect.Value) {
	switch v.Kind() {
	case reflect.Slice:
		if v.IsNil() {
			v.Set(reflect.MakeSlice(v.Type(), 0, 0))
		}
		for i := range v.Len() {
			emptied(v.Index(i))
		}
	case reflect.Struct:
		for i := range v.NumField() {
			emptied(v.Field(i))
		}
	}
}

// What holds everywhere: an answer is new memory, and stays as it is, whatever
// is done to the code behind it, and to another answer.
func TestNothingIsKept(t *testing.T) {
	for n, c := range manyCodes(t) {
		inputs := manyInputs[n%len(manyInputs)]
		c = twin(c)
		a := answers(c, inputs)
		want := fmt.Sprint(a)
		other := answers(c, inputs)
		wipe(reflect.ValueOf(other.things))
		if got := fmt.Sprint(a); got != want {
			t.Fatalf("two answers share memory: %s became %s", short(want), short(got))
		}
		if again := answers(c, inputs); fmt.Sprint(again) != want {
			t.Fatalf("of %s: %s, and then %s", said(c), short(want), shown(again))
		}
		wipe(reflect.ValueOf(c))
		if got := fmt.Sprint(a); got != want {
			t.Fatalf("%s became %s", short(want), short(got))
		}
	}
}

// What holds everywhere: to write into an answer, up to all that it has room
// for, changes no code.
func TestAnswersOfTheirOwnMemory(t *testing.T) {
	for n, c := range manyCodes(t) {
		given := twin(c)
		before := wholeLists(reflect.ValueOf(given), nil)
		a := answers(given, manyInputs[n%len(manyInputs)])
		for i := range a.things[:cap(a.things)] {
			a.things[:cap(a.things)][i] = -7
		}
		if !reflect.DeepEqual(wholeLists(reflect.ValueOf(given), nil), before) {
			t.Fatalf("%s shares memory with an answer", said(c))
		}
	}
}

// wipe makes all that lists hold zero, up to their capacity.
func wipe(v reflect.Value) {
	switch v.Kind() {
	case reflect.Slice:
		for i := range v.Len() {
			wipe(v.Index(i))
		}
		if v.Cap() > 0 {
			v.Slice(0, v.Cap()).Clear()
		}
	case reflect.Struct:
		for i := range v.NumField() {
			wipe(v.Field(i))
		}
	}
}
