package mean

import (
	"reflect"
	"runtime"
	"slices"
	"strings"
	"testing"
	"unsafe"

	"pipewright/api"
)

// copyOf is of its own memory; its lists have room behind their length.
func copyOf[T any](x T) T { return copied(reflect.ValueOf(x)).Interface().(T) }

func copied(v reflect.Value) reflect.Value {
	out := reflect.New(v.Type()).Elem()
	switch v.Kind() {
	case reflect.Slice:
		if v.Len() == 0 {
			return out
		}
		out = reflect.MakeSlice(v.Type(), v.Len(), v.Len()+2)
		for i := range v.Len() {
			out.Index(i).Set(copied(v.Index(i)))
		}
	case reflect.Struct:
		for i := range v.NumField() {
			out.Field(i).Set(copied(v.Field(i)))
		}
	case reflect.String:
		out.SetString(strings.Clone(v.String()))
	default:
		out.Set(v)
	}
	return out
}

// wholeLists copies all lists up to their capacity.
func wholeLists(v reflect.Value, out []any) []any {
	switch v.Kind() {
	case reflect.Slice:
		whole := reflect.MakeSlice(v.Type(), v.Cap(), v.Cap())
		reflect.Copy(whole, v.Slice(0, v.Cap()))
		out = append(out, whole.Interface())
		for i := range v.Len() {
			out = wholeLists(v.Index(i), out)
		}
	case reflect.Struct:
		for i := range v.NumField() {
			out = wholeLists(v.Field(i), out)
		}
	}
	return out
}

// fillBehind lays copies of a list's first element behind its length.
func fillBehind(v reflect.Value) {
	switch v.Kind() {
	case reflect.Slice:
		for i := range v.Len() {
			fillBehind(v.Index(i))
		}
		for i := v.Len(); v.Len() > 0 && i < v.Cap(); i++ {
			v.Slice(0, v.Cap()).Index(i).Set(v.Index(0))
		}
	case reflect.Struct:
		for i := range v.NumField() {
			fillBehind(v.Field(i))
		}
	}
}

// wipe makes all that lists hold zero, up to their capacity.
func wipe(v reflect.Value) {
	switch v.Kind() {
	case reflect.Slice:
		for i := range v.Len() {
			wipe(v.Index(i))
		}
		if v.Cap() > 0 {
			v.Slice(0, v.Cap()).Clear()
		}
	case reflect.Struct:
		for i := range v.NumField() {
			wipe(v.Field(i))
		}
	}
}

// emptied makes all nil lists empty ones.
func emptied(v reflect.Value) {
	switch v.Kind() {
	case reflect.Slice:
		if v.IsNil() {
			v.Set(reflect.MakeSlice(v.Type(), 0, 0))
		}
		for i := range v.Len() {
			emptied(v.Index(i))
		}
	case reflect.Struct:
		for i := range v.NumField() {
			emptied(v.Field(i))
		}
	}
}

// together: means that go on by the same picks, as they are drawn, tell the same
// all the time.
func together(t *testing.T, a *author, deeds int, one, other *Mean) {
	t.Helper()
	for range deeds {
		k := a.pickOf(one.Tasks())
		if one.Step(k) != other.Step(k) {
			t.Fatalf("Step(%d) of one alone", k)
		}
	}
	if x, y := viewOf(one), viewOf(other); x != y {
		t.Fatalf("%+v, and %+v", x, y)
	}
}

// What holds everywhere: what is handed in stays as it was, and what lies behind
// a list's length is neither read nor written.
func TestHandedInStays(t *testing.T) {
	a := newAuthor(71)
	for range 1500 {
		p, in := a.program(), a.inputs()
		given, numbers := copyOf(p), copyOf(in)
		fillBehind(reflect.ValueOf(given))
		fillBehind(reflect.ValueOf(numbers))
		before := wholeLists(reflect.ValueOf(numbers), wholeLists(reflect.ValueOf(given), nil))
		together(t, a, 120, begunOf(t, p, in...), begunOf(t, given, numbers...))
		if !reflect.DeepEqual(wholeLists(reflect.ValueOf(numbers), wholeLists(reflect.ValueOf(given), nil)), before) {
			t.Fatal("what is handed in is changed")
		}
	}
}

// What holds everywhere: it stays as it was also where New has a fault.
func TestHandedInStaysWithAFault(t *testing.T) {
	for what, p := range wrongPrograms(t) {
		given, numbers := copyOf(p), make([]int64, 5, 9)
		before := copyOf(given)
		if _, f := New(given, numbers); f.Code == 0 || !reflect.DeepEqual(given, before) || !slices.Equal(numbers, make([]int64, 5)) {
			t.Errorf("%s: %v", what, f)
		}
	}
}

// What holds everywhere: what is handed in is not kept: whatever becomes of it,
// the mean goes on as it was.
func TestHandedInIsNotKept(t *testing.T) {
	a := newAuthor(72)
	for range 1500 {
		p, in := a.program(), a.inputs()
		given, numbers := copyOf(p), copyOf(in)
		one, other := begunOf(t, p, in...), begunOf(t, given, numbers...)
		together(t, a, a.Intn(20), one, other)
		wipe(reflect.ValueOf(given))
		wipe(reflect.ValueOf(numbers))
		together(t, a, 120, one, other)
	}
}

// span is a piece of memory.
type span struct{ from, to uintptr }

// spans are the pieces of memory that lists and texts lie in, of whatever there is
// behind pointers, too.
func spans(v reflect.Value, seen map[uintptr]bool) []span {
	var all []span
	add := func(at unsafe.Pointer, size int) {
		if size > 0 {
			all = append(all, span{uintptr(at), uintptr(at) + uintptr(size)})
		}
	}
	switch v.Kind() {
	case reflect.Slice:
		add(v.UnsafePointer(), v.Cap()*int(v.Type().Elem().Size()))
		for i := range v.Len() {
			all = append(all, spans(v.Index(i), seen)...)
		}
	case reflect.String:
		add(unsafe.Pointer(unsafe.StringData(v.String())), v.Len())
	case reflect.Struct:
		for i := range v.NumField() {
			all = append(all, spans(v.Field(i), seen)...)
		}
	case reflect.Map:
		for _, key := range v.MapKeys() {
			all = append(all, spans(key, seen)...)
			all = append(all, spans(v.MapIndex(key), seen)...)
		}
	case reflect.Interface:
		if !v.IsNil() {
			return spans(v.Elem(), seen)
		}
	case reflect.Pointer:
		if !v.IsNil() && !seen[v.Pointer()] {
			seen[v.Pointer()] = true
			return spans(v.Elem(), seen)
		}
	}
	return all
}

// What holds everywhere: nothing that a mean has, at the beginning or later, lies
// in what was handed in, texts among it.
func TestNothingIsShared(t *testing.T) {
	a := newAuthor(73)
	found := 0
	for range 300 {
		p, in := copyOf(a.program()), copyOf(a.inputs())
		theirs := append(spans(reflect.ValueOf(p), nil), spans(reflect.ValueOf(in), nil)...)
		m := begunOf(t, p, in...)
		for range 3 {
			for _, own := range spans(reflect.ValueOf(m), map[uintptr]bool{}) {
				found++
				if slices.ContainsFunc(theirs, func(s span) bool { return own.from < s.to && s.from < own.to }) {
					t.Fatal("the mean has what was handed in")
				}
			}
			for range 20 {
				m.Step(a.pickOf(m.Tasks()))
			}
		}
		// Else its memory may become the mean's, as nobody has it any more.
		runtime.KeepAlive(p)
		runtime.KeepAlive(in)
	}
	if found < 10000 {
		t.Errorf("%d are found: too few", found)
	}
}

// What holds everywhere: a list without elements is the same, nil or empty.
func TestNilAndEmpty(t *testing.T) {
	a := newAuthor(74)
	for range 800 {
		p := a.program()
		given := copyOf(p)
		emptied(reflect.ValueOf(&given).Elem())
		together(t, a, 120, begunOf(t, p), begunOf(t, given, []int64{}...))
	}
}

// scribble writes over a list, and over what lies behind it in its memory.
func scribble[T any](list []T, x T) {
	list = list[:cap(list)]
	for k := range list {
		list[k] = x
	}
}

// spoil writes over all that a mean answers.
func spoil(m *Mean) {
	scribble(m.Events(), api.Event{Kind: -99, Task: -99, At: -99, End: -99})
	scribble(m.Out(), -99)
	scribble(m.All(), api.End{Chan: -99, Send: true, Home: -99, Drops: -99})
	scribble(m.Of(0), -99)
	for _, c := range m.Chans() {
		scribble(c.Items, api.Item{N: -99, End: 99})
	}
	scribble(m.Chans(), api.Chan{Slots: -99, Gone: true})
}

// What holds everywhere: what is answered is new memory: what is done to it
// changes nothing.
func TestAnswersAreScribbledOn(t *testing.T) {
	a := newAuthor(75)
	for range 600 {
		p, in := a.program(), a.inputs()
		one, other := begunOf(t, p, in...), begunOf(t, p, in...)
		for range 15 {
			together(t, a, 1+a.Intn(12), one, other)
			spoil(one)
		}
		together(t, a, 0, one, other)
	}
}

// And what comes later changes no answer; two answers are two.
func TestAnswersStay(t *testing.T) {
	m := begunMain(t, "drain in; repeat 6 { repeat 6 { emit 1; drain in; emit 2; } }")
	goes(t, m, 0, 0, 0, 0)
	for range 40 {
		events, out := m.Events(), m.Out()
		wantEvents, wantOut := slices.Clone(events), slices.Clone(out)
		other := m.Events()
		scribble(other, api.Event{})
		goes(t, m, 0, 0, 0)
		if !slices.Equal(events, wantEvents) || !slices.Equal(out, wantOut) {
			t.Fatalf("answers changed: %v %v", events, out)
		}
		_ = append(events, api.Event{Kind: 9})
		_ = append(out, 9)
		if got := m.Events(); !slices.Equal(got[:len(wantEvents)], wantEvents) {
			t.Fatalf("%v, and then %v", wantEvents, got)
		}
	}
	if len(m.Events()) < 20 || len(m.Out()) < 40 {
		t.Errorf("%v %v: too few", m.Events(), m.Out())
	}
}

// P19: Events and Out: in the order in which they came, nothing of it ever goes.
func TestEventsAndOutGrow(t *testing.T) {
	a := newAuthor(76)
	for range 600 {
		x := begunOf(t, a.program(), a.inputs()...)
		var events []api.Event
		var out []int64
		for range 150 {
			x.Step(a.pickOf(x.Tasks()))
			more, told := x.Events(), x.Out()
			if len(more) < len(events) || len(told) < len(out) || !slices.Equal(more[:len(events)], events) || !slices.Equal(told[:len(out)], out) {
				t.Fatalf("%v %v, and then %v %v", events, out, more, told)
			}
			events, out = more, told
		}
	}
}
