package world

import (
	"reflect"
	"slices"
	"strings"
	"testing"

	"pipewright/api"
)

// copyOf is of its own memory; its lists have room behind their length.
func copyOf[T any](x T) T { return copied(reflect.ValueOf(x)).Interface().(T) }

func copied(v reflect.Value) reflect.Value {
	out := reflect.New(v.Type()).Elem()
	switch v.Kind() {
	case reflect.Slice:
		if v.Len() == 0 {
			return out
		}
		out = reflect.MakeSlice(v.Type(), v.Len(), v.Len()+2)
		for i := range v.Len() {
			out.Index(i).Set(copied(v.Index(i)))
		}
	case reflect.Struct:
		for i := range v.NumField() {
			out.Field(i).Set(copied(v.Field(i)))
		}
	case reflect.String:
		out.SetString(strings.Clone(v.String()))
	default:
		out.Set(v)
	}
	return out
}

// wholeLists copies all lists up to their capacity.
func wholeLists(v reflect.Value, out []any) []any {
	switch v.Kind() {
	case reflect.Slice:
		whole := reflect.MakeSlice(v.Type(), v.Cap(), v.Cap())
		reflect.Copy(whole, v.Slice(0, v.Cap()))
		out = append(out, whole.Interface())
		for i := range v.Len() {
			out = wholeLists(v.Index(i), out)
		}
	case reflect.Struct:
		for i := range v.NumField() {
			out = wholeLists(v.Field(i), out)
		}
	}
	return out
}

// fillBehind lays copies of a list's first element behind its length.
func fillBehind(v reflect.Value) {
	switch v.Kind() {
	case reflect.Slice:
		for i := range v.Len() {
			fillBehind(v.Index(i))
		}
		for i := v.Len(); v.Len() > 0 && i < v.Cap(); i++ {
			v.Slice(0, v.Cap()).Index(i).Set(v.Index(0))
		}
	case reflect.Struct:
		for i := range v.NumField() {
			fillBehind(v.Field(i))
		}
	}
}

// wipe makes all that lists hold zero, up to their capacity.
func wipe(v reflect.Value) {
	switch v.Kind() {
	case reflect.Slice:
		for i := range v.Len() {
			wipe(v.Index(i))
		}
		if v.Cap() > 0 {
			v.Slice(0, v.Cap()).Clear()
		}
	case reflect.Struct:
		for i := range v.NumField() {
			wipe(v.Field(i))
		}
	}
}

// emptied makes all nil lists empty ones.
func emptied(v reflect.Value) {
	switch v.Kind() {
	case reflect.Slice:
		if v.IsNil() {
			v.Set(reflect.MakeSlice(v.Type(), 0, 0))
		}
		for i := range v.Len() {
			emptied(v.Index(i))
		}
	case reflect.Struct:
		for i := range v.NumField() {
			emptied(v.Field(i))
		}
	}
}

// together: worlds that go on by the same picks, as they are drawn, tell the
// same all the time.
func together(t *testing.T, w *writer, steps int, one, other *World) {
	t.Helper()
	for range steps {
		k := w.pickOf(one.Tasks())
		if one.Step(k) != other.Step(k) {
			t.Fatalf("Step(%d) of one alone", k)
		}
	}
	if a, b := viewOf(one), viewOf(other); a != b {
		t.Fatalf("%+v, and %+v", a, b)
	}
}

// What holds everywhere: what is handed in stays as it was, and what lies behind
// a list's length is neither read nor written.
func TestHandedInStays(t *testing.T) {
	w := newWriter(5)
	for range 300 {
		c, in := w.code(30), w.inputs()
		given, numbers := copyOf(c), copyOf(in)
		fillBehind(reflect.ValueOf(given))
		fillBehind(reflect.ValueOf(numbers))
		before := wholeLists(reflect.ValueOf(numbers), wholeLists(reflect.ValueOf(given), nil))
		together(t, w, 120, begun(t, c, in...), begun(t, given, numbers...))
		if !reflect.DeepEqual(wholeLists(reflect.ValueOf(numbers), wholeLists(reflect.ValueOf(given), nil)), before) {
			t.Fatal("what is handed in is changed")
		}
	}
}

// What holds everywhere: what is handed in is not kept: whatever becomes of it,
// the world goes on as it was.
func TestHandedInIsNotKept(t *testing.T) {
	w := newWriter(6)
	for range 300 {
		c, in := w.code(30), w.inputs()
		given, numbers := copyOf(c), copyOf(in)
		one, other := begun(t, c, in...), begun(t, given, numbers...)
		together(t, w, w.Intn(20), one, other)
		wipe(reflect.ValueOf(given))
		wipe(reflect.ValueOf(numbers))
		together(t, w, 120, one, other)
	}
}

// What holds everywhere: a list without elements is the same, nil or empty.
func TestNilAndEmpty(t *testing.T) {
	w := newWriter(7)
	for range 200 {
		c := w.code(30)
		given := copyOf(c)
		emptied(reflect.ValueOf(&given).Elem())
		together(t, w, 120, begun(t, c), begun(t, given, []int64{}...))
	}
}

// scribble writes over a list, and over what lies behind it in its memory.
func scribble[T any](list []T, x T) {
	list = list[:cap(list)]
	for k := range list {
		list[k] = x
	}
}

// spoil writes over all that a world answers.
func spoil(w *World) {
	scribble(w.Ready(), -99)
	scribble(w.Events(), api.Event{Kind: -99, Task: -99, At: -99, End: -99})
	scribble(w.Out(), -99)
	scribble(w.All(), api.End{Chan: -99, Send: true, Home: -99, Drops: -99})
	scribble(w.Of(0), -99)
	for _, c := range w.Chans() {
		scribble(c.Items, api.Item{N: -99, End: 99})
	}
	scribble(w.Chans(), api.Chan{Slots: -99, Gone: true})
}

// What holds everywhere: what is answered is new memory: what is done to it
// changes nothing.
func TestAnswersAreScribbledOn(t *testing.T) {
	w := newWriter(8)
	for range 300 {
		c, in := w.code(40), w.inputs()
		one, other := begun(t, c, in...), begun(t, c, in...)
		for range 15 {
			together(t, w, 1+w.Intn(12), one, other)
			spoil(one)
		}
		together(t, w, 0, one, other)
	}
}

// And what comes later changes no answer; two answers are two.
func TestAnswersStay(t *testing.T) {
	w := begun(t, code(proc("ri", 1, "emit 1; over 0; drain 0; emit 2; drain 0; emit 3; jump :0")))
	for n := range 60 {
		events, out, ready := w.Events(), w.Out(), w.Ready()
		wantEvents, wantOut := slices.Clone(events), slices.Clone(out)
		other := w.Events()
		scribble(other, api.Event{})
		goes(t, w, 0, 0, 0)
		if !slices.Equal(events, wantEvents) || !slices.Equal(out, wantOut) || !slices.Equal(ready, l(0)) {
			t.Fatalf("at %d: answers changed: %v %v %v", n, events, out, ready)
		}
		_ = append(events, api.Event{Kind: 9})
		_ = append(out, 9)
		if got := w.Events(); !slices.Equal(got[:len(wantEvents)], wantEvents) {
			t.Fatalf("at %d: %v, and then %v", n, wantEvents, got)
		}
	}
}

// P17: Events and Out: in the order in which they came, nothing of it ever goes.
func TestEventsAndOutGrow(t *testing.T) {
	w := newWriter(9)
	for range 300 {
		x := begun(t, w.code(40), w.inputs()...)
		var events []api.Event
		var out []int64
		for range 150 {
			x.Step(w.pickOf(x.Tasks()))
			more, told := x.Events(), x.Out()
			if len(more) < len(events) || len(told) < len(out) || !slices.Equal(more[:len(events)], events) || !slices.Equal(told[:len(out)], out) {
				t.Fatalf("%v %v, and then %v %v", events, out, more, told)
			}
			events, out = more, told
		}
	}
}
