package text

import (
	"math"
	"slices"
	"strconv"
	"strings"
	"testing"

	"pipewright/api"
)

// P1.4
func TestWord(t *testing.T) {
	for _, c := range []struct {
		code int
		want string
	}{
		{api.ErrSize, "size"}, {api.ErrText, "text"}, {api.ErrNumber, "number"}, {api.ErrName, "name"},
		{api.ErrForm, "form"}, {api.ErrShort, "short"}, {api.ErrDeep, "deep"}, {api.ErrMany, "many"},
		{api.ErrTwice, "twice"}, {api.ErrNone, "none"}, {api.ErrType, "type"}, {api.ErrStage, "stage"},
		{api.ErrMain, "main"}, {api.ErrRange, "range"}, {api.ErrCount, "count"}, {api.ErrCode, "code"},
		{api.ErrRound, "round"},
		{1, "size"}, {17, "round"},
		{0, ""}, {18, ""}, {19, ""}, {-1, ""}, {-17, ""}, {1000000, ""},
		{math.MinInt, ""}, {math.MaxInt, ""}, {1<<32 + 1, ""}, {1<<8 + 1, ""},
	} {
		if got := Word(c.code); got != c.want {
			t.Errorf("Word(%d): %q, want %q", c.code, got, c.want)
		}
	}
}

func wantTell(t *testing.T, src string, f api.Fault, want string, wantFault api.Fault) {
	t.Helper()
	if got, bad := Tell(src, f); got != want || bad != wantFault {
		t.Errorf("Tell of %d bytes, %v: %q %v, want %q %v", len(src), f, got, bad, want, wantFault)
	}
}

// P1.5
func TestTell(t *testing.T) {
	none := api.Fault{}
	wantTell(t, "ab\ncd", fault(api.ErrForm, 3), "2:1 form", none)
	wantTell(t, "a\nbcdef", fault(api.ErrForm, 6), "2:5 form", none)
	wantTell(t, "", fault(api.ErrShort, 0), "1:1 short", none)
	wantTell(t, "ab\n", fault(api.ErrShort, 3), "2:1 short", none)
	wantTell(t, "ab", fault(1, 2), "1:3 size", none)
	wantTell(t, "ab", fault(17, 0), "1:1 round", none)
	full := strings.Repeat("x", api.MaxText)
	wantTell(t, full, fault(api.ErrText, api.MaxText), "1:12001 text", none)
	wantTell(t, strings.Repeat("\n", api.MaxText), fault(api.ErrText, api.MaxText), "12001:1 text", none)
}

// P1.5: a place's faults are told ahead of the code's.
func TestTellOfWrongThings(t *testing.T) {
	noWord, outside, tooLong := fault(api.ErrCode, -1), fault(api.ErrRange, -1), fault(api.ErrSize, -1)
	for _, code := range []int{0, 18, 99, -1, math.MinInt, math.MaxInt} {
		wantTell(t, "ab", fault(code, 0), "", noWord)
		wantTell(t, "ab", fault(code, 2), "", noWord)
		wantTell(t, "", fault(code, 0), "", noWord)
		wantTell(t, "ab", fault(code, 3), "", outside)
		wantTell(t, "ab", fault(code, -1), "", outside)
	}
	for _, at := range []int{-1, 3, math.MinInt, math.MaxInt} {
		wantTell(t, "ab", fault(api.ErrForm, at), "", outside)
	}
	long := strings.Repeat("\n", api.MaxText+1)
	for _, f := range []api.Fault{{Code: 5, At: 0}, {Code: 5, At: -1}, {Code: 0, At: 0}, {Code: 18, At: math.MaxInt}} {
		wantTell(t, long, f, "", tooLong)
	}
}

func wantAll(t *testing.T, src string, l []api.Fault, want string, wantFault api.Fault) {
	t.Helper()
	if got, bad := All(src, l); got != want || bad != wantFault {
		t.Errorf("All of %d bytes, %v: %q %v, want %q %v", len(src), l, got, bad, want, wantFault)
	}
}

// P1.6
func TestAll(t *testing.T) {
	none := api.Fault{}
	wantAll(t, "ab\ncd", []api.Fault{{Code: 5, At: 3}, {Code: 5, At: 0}}, "1:1 form\n2:1 form\n", none)
	wantAll(t, "ab\ncd", []api.Fault{{Code: 5, At: 3}, {Code: 5, At: 3}}, "2:1 form\n", none)
	wantAll(t, "ab\ncd", []api.Fault{{Code: 8, At: 5}, {Code: 0, At: 77}, {Code: 3, At: 5}, {Code: 17, At: 2}},
		"1:3 round\n2:3 number\n2:3 many\n", none)
	wantAll(t, "", []api.Fault{{Code: 6, At: 0}}, "1:1 short\n", none)
	wantAll(t, "ab", nil, "", none)
	wantAll(t, "ab", []api.Fault{}, "", none)
	wantAll(t, "ab", []api.Fault{{}, {Code: 0, At: 9}}, "", none)
	wantAll(t, strings.Repeat("x", api.MaxText), []api.Fault{{Code: 1, At: api.MaxText}}, "1:12001 size\n", none)
}

// P1.6: which fault is told hangs on the order of the text, not of the list.
func TestAllOfWrongThings(t *testing.T) {
	noWord, outside, tooLong := fault(api.ErrCode, -1), fault(api.ErrRange, -1), fault(api.ErrSize, -1)
	wantAll(t, "ab", []api.Fault{{Code: 5, At: 0}, {Code: 18, At: 1}}, "", noWord)
	wantAll(t, "ab", []api.Fault{{Code: 5, At: 0}, {Code: -1, At: 1}}, "", noWord)
	wantAll(t, "ab", []api.Fault{{Code: 5, At: 3}}, "", outside)
	wantAll(t, "ab", []api.Fault{{Code: 5, At: -1}}, "", outside)
	wantAll(t, "ab", []api.Fault{{Code: 5, At: 3}, {Code: 18, At: 1}}, "", noWord)
	wantAll(t, "ab", []api.Fault{{Code: 18, At: 1}, {Code: 5, At: -1}}, "", outside)
	wantAll(t, "ab", []api.Fault{{Code: 5, At: math.MaxInt}, {Code: 5, At: math.MinInt}}, "", outside)
	long := strings.Repeat("x", api.MaxText+1)
	wantAll(t, long, []api.Fault{{Code: 5, At: 0}}, "", tooLong)
	wantAll(t, long, []api.Fault{{Code: 18, At: -1}}, "", tooLong)
	// Nothing is told of a text without faults, so nothing is wrong either.
	wantAll(t, long, nil, "", api.Fault{})
	wantAll(t, long, []api.Fault{{Code: 0, At: 3}}, "", api.Fault{})
}

// P1.6: what All says, said by Order and Tell.
func TestAllIsTellOfOrder(t *testing.T) {
	for _, src := range textsUpTo(4) {
		for k := range 40 {
			var l []api.Fault
			for j := range 4 {
				l = append(l, api.Fault{Code: (k + 7*j) % 20, At: (k*j+k+j)%6 - k%2})
			}
			var want strings.Builder
			var wantFault api.Fault
			for _, f := range Order(l) {
				told, bad := Tell(src, f)
				if bad.Code != 0 {
					want.Reset()
					wantFault = bad
					break
				}
				want.WriteString(told + "\n")
			}
			wantAll(t, src, l, want.String(), wantFault)
		}
	}
}

// P1: every call ends, with as many faults as can be told of one text, too.
func TestAllOfTheMostFaults(t *testing.T) {
	var l []api.Fault
	var want strings.Builder
	for at := range api.MaxText + 1 {
		for code := 1; code <= 17; code++ {
			l = append(l, api.Fault{Code: code, At: at})
			want.WriteString(strconv.Itoa(at+1) + ":1 " + Word(code) + "\n")
		}
	}
	slices.Reverse(l)
	got, bad := All(strings.Repeat("\n", api.MaxText), l)
	if got != want.String() || bad.Code != 0 {
		t.Errorf("All of the most faults: %d bytes %v, want %d bytes", len(got), bad, want.Len())
	}
}

func TestAllLeavesItsListAlone(t *testing.T) {
	for _, src := range []string{"ab\ncd", "", strings.Repeat("x", api.MaxText+1)} {
		for _, l := range someLists() {
			whole, part := guarded(l)
			before := slices.Clone(whole)
			first, firstFault := All(src, part)
			second, secondFault := All(src, part)
			if !slices.Equal(whole, before) {
				t.Errorf("All(%v) changed what was handed in: %v, want %v", l, whole, before)
			}
			if first != second || firstFault != secondFault {
				t.Errorf("All(%v) answered %q %v, then %q %v", l, first, firstFault, second, secondFault)
			}
		}
	}
}
