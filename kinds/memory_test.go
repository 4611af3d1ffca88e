package kinds

import (
	"reflect"
	"testing"
	"unsafe"

	"pipewright/api"
)

func manyPrograms(t *testing.T) []api.Program {
	all := append(somePrograms(10, 100), parsed(t, long))
	for _, s := range spoils() {
		p := parsed(t, long)
		s.do(&p)
		all = append(all, p)
	}
	return all
}

// What holds everywhere: what is handed in is not changed, and what lies
// behind a list's length is neither read nor written.
func TestWhatIsHandedInStays(t *testing.T) {
	for _, p := range manyPrograms(t) {
		given := twin(p)
		before := wholeLists(reflect.ValueOf(given), nil)
		vars, f := Vars(given)
		if got := Check(given); got != f {
			t.Fatalf("Check: %v, Vars: %v", got, f)
		}
		if !reflect.DeepEqual(wholeLists(reflect.ValueOf(given), nil), before) {
			t.Fatalf("Vars(%s) changed it", shown(p))
		}
		fillBehind(reflect.ValueOf(given))
		again, g := Vars(given)
		if g != f || !reflect.DeepEqual(again, vars) {
			t.Fatalf("Vars(%s): %v, and then %v", shown(p), f, g)
		}
	}
}

// wholeLists copies all lists up to their capacity.
func wholeLists(v reflect.Value, out []any) []any {
	switch v.Kind() {
	case reflect.Slice:
		whole := reflect.MakeSlice(v.Type(), v.Cap(), v.Cap())
		reflect.Copy(whole, v.Slice(0, v.Cap()))
		out = append(out, whole.Interface())
		for i := range v.Len() {
			out = wholeLists(v.Index(i), out)
		}
	case reflect.Struct:
		for i := range v.NumField() {
			out = wholeLists(v.Field(i), out)
		}
	}
	return out
}

// fillBehind lays copies of a list's first element behind its length.
func fillBehind(v reflect.Value) {
	switch v.Kind() {
	case reflect.Slice:
		for i := range v.Len() {
			fillBehind(v.Index(i))
		}
		for i := v.Len(); v.Len() > 0 && i < v.Cap(); i++ {
			v.Slice(0, v.Cap()).Index(i).Set(v.Index(0))
		}
	case reflect.Struct:
		for i := range v.NumField() {
			fillBehind(v.Field(i))
		}
	}
}

// What holds everywhere: an answer stays as it is, whatever is done to the
// program behind it, and to another answer.
func TestVarsKeepsNothing(t *testing.T) {
	for _, p := range manyPrograms(t) {
		p = twin(p)
		vars, f := Vars(p)
		want := saidAll(vars)
		other, _ := Vars(p)
		for _, list := range other {
			clear(list[:cap(list)])
		}
		clear(other)
		if again, g := Vars(p); g != f || !reflect.DeepEqual(saidAll(again), want) {
			t.Fatalf("Vars(%s): %v, %q, and then %v, %q", shown(p), f, want, g, saidAll(again))
		}
		for _, name := range variablesOf(&p) {
			*name = "zzz"
		}
		for i := range p.Stages {
			clear(p.Stages[i].Params)
			clear(p.Stages[i].Body)
		}
		if got := saidAll(vars); !reflect.DeepEqual(got, want) {
			t.Fatalf("%q became %q", want, got)
		}
	}
}

func saidAll(vars [][]api.Var) []string {
	var all []string
	for _, list := range vars {
		all = append(all, said(list))
	}
	return all
}

// What holds everywhere: no two lists of one answer share memory.
func TestVarsOfItsOwnMemory(t *testing.T) {
	for _, p := range manyPrograms(t) {
		vars, _ := Vars(p)
		want := saidAll(vars)
		for i := range vars {
			list := vars[i][:cap(vars[i])]
			for k := range list {
				list[k] = api.Var{Name: "zzz", T: "zzz"}
			}
			want[i] = said(vars[i])
			if got := saidAll(vars); !reflect.DeepEqual(got, want) {
				t.Fatalf("the list %d changed others: %q, want %q", i, got, want)
			}
		}
	}
}

// What holds everywhere: the texts are new memory, too.
func TestTextsOfTheirOwnMemory(t *testing.T) {
	for _, p := range manyPrograms(t) {
		p = twin(p)
		seen := map[*byte]string{}
		for _, text := range texts(reflect.ValueOf(&p).Elem(), nil) {
			for i := range len(*text) {
				seen[unsafe.StringData((*text)[i:])] = *text
			}
		}
		vars, _ := Vars(p)
		for _, text := range texts(reflect.ValueOf(&vars).Elem(), nil) {
			for i := range len(*text) {
				if other := seen[unsafe.StringData((*text)[i:])]; other != "" {
					t.Fatalf("Vars(%s): %q lies in %q", shown(p), *text, other)
				}
			}
		}
	}
}
