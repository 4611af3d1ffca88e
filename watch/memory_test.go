package watch

import (
	"reflect"
	"slices"
	"strings"
	"testing"

	"pipewright/api"
)

// copyOf is of its own memory; its lists have room behind their length.
func copyOf[T any](x T) T { return copied(reflect.ValueOf(x)).Interface().(T) }

func copied(v reflect.Value) reflect.Value {
	out := reflect.New(v.Type()).Elem()
	switch v.Kind() {
	case reflect.Slice:
		if v.Len() == 0 {
			return out
		}
		out = reflect.MakeSlice(v.Type(), v.Len(), v.Len()+2)
		for i := range v.Len() {
			out.Index(i).Set(copied(v.Index(i)))
		}
	case reflect.Struct:
		for i := range v.NumField() {
			out.Field(i).Set(copied(v.Field(i)))
		}
	case reflect.String:
		out.SetString(strings.Clone(v.String()))
	default:
		out.Set(v)
	}
	return out
}

// wholeLists copies all lists up to their capacity.
func wholeLists(v reflect.Value, out []any) []any {
	switch v.Kind() {
	case reflect.Slice:
		whole := reflect.MakeSlice(v.Type(), v.Cap(), v.Cap())
		reflect.Copy(whole, v.Slice(0, v.Cap()))
		out = append(out, whole.Interface())
		for i := range v.Len() {
			out = wholeLists(v.Index(i), out)
		}
	case reflect.Struct:
		for i := range v.NumField() {
			out = wholeLists(v.Field(i), out)
		}
	}
	return out
}

// fillBehind lays copies of a list's first element behind its length.
func fillBehind(v reflect.Value) {
	switch v.Kind() {
	case reflect.Slice:
		for i := range v.Len() {
			fillBehind(v.Index(i))
		}
		for i := v.Len(); v.Len() > 0 && i < v.Cap(); i++ {
			v.Slice(0, v.Cap()).Index(i).Set(v.Index(0))
		}
	case reflect.Struct:
		for i := range v.NumField() {
			fillBehind(v.Field(i))
		}
	}
}

// wipe makes all that lists hold zero, up to their capacity.
func wipe(v reflect.Value) {
	switch v.Kind() {
	case reflect.Slice:
		for i := range v.Len() {
			wipe(v.Index(i))
		}
		if v.Cap() > 0 {
			v.Slice(0, v.Cap()).Clear()
		}
	case reflect.Struct:
		for i := range v.NumField() {
			wipe(v.Field(i))
		}
	}
}

// emptied makes all nil lists empty ones.
func emptied(v reflect.Value) {
	switch v.Kind() {
	case reflect.Slice:
		if v.IsNil() {
			v.Set(reflect.MakeSlice(v.Type(), 0, 0))
		}
		for i := range v.Len() {
			emptied(v.Index(i))
		}
	case reflect.Struct:
		for i := range v.NumField() {
			emptied(v.Field(i))
		}
	}
}

// given are the arguments of a run.
type given struct {
	C     api.Code
	In    []int64
	Picks []int
}

func (w *writer) given() given { return given{w.code(30), w.inputs(), w.picks(w.Intn(80))} }

func (g given) ran(t *testing.T) api.Report {
	t.Helper()
	return ran(t, g.C, g.In, g.Picks, 120)
}

func wantSame(t *testing.T, got, want api.Report) {
	t.Helper()
	if !sameReport(got, want) {
		t.Fatalf("%s, and %s", short(said(want)), short(said(got)))
	}
}

// What holds everywhere: what is handed in stays as it was, and what lies behind
// a list's length is neither read nor written.
func TestHandedInStays(t *testing.T) {
	w := newWriter(21)
	for range 600 {
		one := w.given()
		other := copyOf(one)
		fillBehind(reflect.ValueOf(other))
		before := wholeLists(reflect.ValueOf(other), nil)
		wantSame(t, other.ran(t), one.ran(t))
		if !reflect.DeepEqual(wholeLists(reflect.ValueOf(other), nil), before) {
			t.Fatal("what is handed in is changed")
		}
	}
}

// And it stays, where there is a fault.
func TestHandedInStaysWithFaults(t *testing.T) {
	for _, x := range badCodes() {
		for _, most := range l(-1, 0, 10) {
			other := copyOf(given{x.c, in(1, 2), l(3, -1)})
			fillBehind(reflect.ValueOf(other))
			before := wholeLists(reflect.ValueOf(other), nil)
			Run(other.C, other.In, other.Picks, most)
			if !reflect.DeepEqual(wholeLists(reflect.ValueOf(other), nil), before) {
				t.Fatalf("%s: what is handed in is changed", x.what)
			}
		}
	}
}

// What holds everywhere: what is handed in is not kept: whatever becomes of it,
// reports stay as they were.
func TestHandedInIsNotKept(t *testing.T) {
	w := newWriter(22)
	for range 600 {
		one := w.given()
		other := copyOf(one)
		want, got := one.ran(t), other.ran(t)
		wipe(reflect.ValueOf(other))
		wantSame(t, got, want)
		wantSame(t, one.ran(t), want)
	}
}

// What holds everywhere: a list without elements is the same, nil or empty.
func TestNilAndEmpty(t *testing.T) {
	w := newWriter(23)
	for n := range 600 {
		one := w.given()
		if n%2 == 0 {
			one.In, one.Picks = nil, nil
		}
		other := copyOf(one)
		emptied(reflect.ValueOf(&other).Elem())
		wantSame(t, other.ran(t), one.ran(t))
	}
	if _, f := Run(api.Code{Procs: []api.Proc{}}, []int64{}, []int{}, 0); f != fault(api.ErrNone, -1) {
		t.Error(f)
	}
}

// scribble writes over a list, and over what lies behind it in its memory.
func scribble[T any](list []T, x T) {
	list = list[:cap(list)]
	for k := range list {
		list[k] = x
	}
}

// What holds everywhere: what is answered is new memory: what is done to it
// changes no other report, and nothing that was handed in.
func TestAnswersAreScribbledOn(t *testing.T) {
	w := newWriter(24)
	for range 600 {
		g := w.given()
		before := copyOf(g)
		one, other := g.ran(t), g.ran(t)
		want := copyOf(other)
		scribble(one.Events, api.Event{Kind: -99, Task: -99, At: -99, End: -99})
		scribble(one.Out, -99)
		wantSame(t, other, want)
		wantSame(t, g.ran(t), want)
		if !reflect.DeepEqual(copyOf(g), before) {
			t.Fatal("what is handed in is changed")
		}
		_ = append(other.Events, api.Event{Kind: 9})
		_ = append(other.Out, 9)
		wantSame(t, other, want)
	}
}

// Where the numbers that come in are emitted again, they are no part of those.
func TestOutIsNotIn(t *testing.T) {
	c := lowered(t, "stage main(in recv int) { for x from in { emit x; } drain in; }")
	numbers := in(1, 2, 3)
	r := whole(t, c, numbers)
	numbers[0] = 9
	if !slices.Equal(r.Out, in(1, 2, 3)) {
		t.Errorf("%v are emitted", r.Out)
	}
	r.Out[1] = 9
	if !slices.Equal(numbers, in(9, 2, 3)) {
		t.Errorf("%v are left", numbers)
	}
}
