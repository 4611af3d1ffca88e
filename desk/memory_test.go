package desk

import (
	"reflect"
	"runtime"
	"slices"
	"strings"
	"testing"
	"unsafe"
)

// fragile are the same lines, each lying in memory that may be written to; what
// lies behind the list's length is a line, too.
func fragile(list []string) (lines []string, behind [][]byte) {
	lines = make([]string, 0, len(list)+2)
	for _, line := range list {
		own := []byte(line)
		behind = append(behind, own)
		lines = append(lines, unsafe.String(unsafe.SliceData(own), len(own)))
	}
	whole := lines[:cap(lines)]
	for n := len(lines); n < len(whole); n++ {
		whole[n] = "new"
	}
	return lines, behind
}

// What holds everywhere: what is handed in stays as it was; what lies behind a
// list's length is neither read nor written.
func TestHandedInStays(t *testing.T) {
	for seed := range int64(100) {
		list := newClerk(6000 + seed).lines(60)
		given, _ := fragile(list)
		want := does(t, New(), list...)
		tells(t, New(), want, given...)
		if !slices.Equal(given, list) {
			t.Fatal("what is handed in is changed")
		}
		for _, line := range given[len(given):cap(given)] {
			if line != "new" {
				t.Fatal("what lies behind the list's length is changed")
			}
		}
	}
}

// What holds everywhere: what is handed in is not kept: whatever becomes of it,
// the desk goes on as it was.
func TestHandedInIsNotKept(t *testing.T) {
	for seed := range int64(100) {
		list := newClerk(7000 + seed).lines(90)
		one, other := New(), New()
		for len(list) > 0 {
			part := list[:min(len(list), 7)]
			list = list[len(part):]
			given, behind := fragile(part)
			want := does(t, one, part...)
			tells(t, other, want, given...)
			for _, own := range behind {
				for k := range own {
					own[k] = '?'
				}
			}
			clear(given)
			if a, b := view(t, one), view(t, other); a != b {
				t.Fatalf("%s, want %s", b, a)
			}
		}
	}
}

// What holds everywhere: an answer stays as it is, whatever the desk does behind
// it; and the desk does, whatever becomes of the answer.
func TestAnswersAreApart(t *testing.T) {
	for seed := range int64(60) {
		list := newClerk(8000 + seed).lines(90)
		one, other := New(), New()
		var answers, copies []string
		for _, line := range list {
			want := does(t, one, line)
			answers, copies = append(answers, want), append(copies, strings.Clone(want))
			told := does(t, other, line)
			if told != want {
				t.Fatalf("%s: %s, want %s", line, told, want)
			}
			for k := range told {
				unsafe.Slice(unsafe.StringData(told), len(told))[k] = '?'
			}
		}
		if !slices.Equal(answers, copies) {
			t.Fatal("an answer is changed")
		}
	}
}

// span is a piece of memory.
type span struct{ from, to uintptr }

func (s span) shares(o span) bool { return s.from < o.to && o.from < s.to }

func ofText(s string) span {
	at := uintptr(unsafe.Pointer(unsafe.StringData(s)))
	return span{at, at + uintptr(len(s))}
}

// spans are the pieces of memory that lists and texts lie in, of whatever there is
// behind pointers, too.
func spans(v reflect.Value, seen map[uintptr]bool) []span {
	var all []span
	switch v.Kind() {
	case reflect.Slice:
		if size := uintptr(v.Cap()) * v.Type().Elem().Size(); size > 0 {
			all = append(all, span{v.Pointer(), v.Pointer() + size})
		}
		for i := range v.Len() {
			all = append(all, spans(v.Index(i), seen)...)
		}
	case reflect.String:
		if v.Len() > 0 {
			all = append(all, ofText(v.String()))
		}
	case reflect.Struct:
		for i := range v.NumField() {
			all = append(all, spans(v.Field(i), seen)...)
		}
	case reflect.Map:
		for _, key := range v.MapKeys() {
			all = append(all, spans(key, seen)...)
			all = append(all, spans(v.MapIndex(key), seen)...)
		}
	case reflect.Interface:
		if !v.IsNil() {
			return spans(v.Elem(), seen)
		}
	case reflect.Pointer:
		if !v.IsNil() && !seen[v.Pointer()] {
			seen[v.Pointer()] = true
			return spans(v.Elem(), seen)
		}
	}
	return all
}

// What holds everywhere: nothing that a desk has lies in what was handed in, or in
// what it answered.
func TestNothingIsShared(t *testing.T) {
	found := 0
	for seed := range int64(60) {
		list := newClerk(9000 + seed).lines(60)
		d := New()
		var told, given []string
		var foreign []span
		for len(list) > 0 {
			part, _ := fragile(list[:min(len(list), 9)])
			list = list[len(part):]
			told, given = append(told, does(t, d, part...)), append(given, part...)
			foreign = append(foreign, ofText(told[len(told)-1]))
			for _, line := range part {
				foreign = append(foreign, ofText(line))
			}
			for _, own := range spans(reflect.ValueOf(d), map[uintptr]bool{}) {
				found++
				if slices.ContainsFunc(foreign, own.shares) {
					t.Fatal("the desk has what is not its own")
				}
			}
		}
		// Else what nobody has any more may become the desk's.
		runtime.KeepAlive(told)
		runtime.KeepAlive(given)
	}
	if found < 10000 {
		t.Errorf("%d are found: too few", found)
	}
}

// What holds everywhere: a list without elements is the same, nil or empty.
func TestNoLines(t *testing.T) {
	d := begun(t, handsOn)
	before := view(t, d)
	for _, none := range [][]string{nil, {}, make([]string, 0, 5), []string{"new", "x"}[:0]} {
		if told, f := d.Do(none); told != "" || f.Code != 0 {
			t.Errorf("%q %v", told, f)
		}
	}
	if after := view(t, d); after != before {
		t.Errorf("%s became %s", before, after)
	}
}
