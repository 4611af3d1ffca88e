package text

import (
	"math"
	"slices"
	"strings"
	"testing"

	"pipewright/api"
)

func fault(code, at int) api.Fault { return api.Fault{Code: code, At: at} }

// textsUpTo gives all texts of at most so many bytes, each an 'a' or a newline.
func textsUpTo(size int) []string {
	all := []string{""}
	for from := 0; len(all[from]) < size; from++ {
		all = append(all, all[from]+"a", all[from]+"\n")
	}
	return all
}

// P1.1
func TestLines(t *testing.T) {
	for _, c := range []struct {
		src  string
		want []int
	}{
		{"ab\ncd", []int{0, 3}},
		{"", []int{0}},
		{"a", []int{0}},
		{"\n", []int{0, 1}},
		{"ab\n", []int{0, 3}},
		{"\n\n", []int{0, 1, 2}},
		{"a\r\nb\rc\x00\x0b\x0cd", []int{0, 3}},
		{"\u00e9\n\u2028\u0085\n\xff", []int{0, 3, 9}},
	} {
		if got := Lines(c.src); !slices.Equal(got, c.want) {
			t.Errorf("Lines(%q): %v, want %v", c.src, got, c.want)
		}
	}
}

// P1.1
func TestLinesAtTheLimit(t *testing.T) {
	if got := Lines(strings.Repeat("x", api.MaxText)); !slices.Equal(got, []int{0}) {
		t.Errorf("MaxText bytes without a newline: %v, want [0]", got)
	}
	got := Lines(strings.Repeat("\n", api.MaxText))
	if len(got) != api.MaxText+1 {
		t.Fatalf("MaxText newlines: %d lines, want %d", len(got), api.MaxText+1)
	}
	for i, at := range got {
		if at != i {
			t.Fatalf("MaxText newlines: line %d begins at %d, want %d", i, at, i)
		}
	}
	for _, b := range []string{"x", "\n"} {
		if got := Lines(strings.Repeat(b, api.MaxText+1)); len(got) != 0 {
			t.Errorf("a byte more than MaxText of %q: %d lines, want none", b, len(got))
		}
	}
}

func TestLinesAreNewMemory(t *testing.T) {
	first := Lines("a\nb")
	first[0], first[1] = 70, 71
	_ = append(first, 72)
	if got := Lines("a\nb"); !slices.Equal(got, []int{0, 2}) {
		t.Errorf("the second answer: %v, want [0 2]", got)
	}
}

func wantPlace(t *testing.T, src string, at, line, col int, want api.Fault) {
	t.Helper()
	gotLine, gotCol, f := Place(src, at)
	if gotLine != line || gotCol != col || f != want {
		if len(src) > 40 {
			src = src[:40] + ".."
		}
		t.Errorf("Place(%q, %d): %d %d %v, want %d %d %v", src, at, gotLine, gotCol, f, line, col, want)
	}
}

// P1.2
func TestPlace(t *testing.T) {
	none := api.Fault{}
	wantPlace(t, "ab\ncd", 4, 2, 2, none)
	wantPlace(t, "ab\ncd", 0, 1, 1, none)
	wantPlace(t, "ab\ncd", 2, 1, 3, none)
	wantPlace(t, "ab\ncd", 3, 2, 1, none)
	wantPlace(t, "ab\ncd", 5, 2, 3, none)
	wantPlace(t, "", 0, 1, 1, none)
	wantPlace(t, "ab\n", 3, 2, 1, none)
	wantPlace(t, "\u00e9x", 2, 1, 3, none)
	wantPlace(t, "a\rb\tc", 4, 1, 5, none)
	wantPlace(t, "\xff\n\xfe\xfd", 4, 2, 3, none)
}

// P1.2: each place of each small text, against a count byte by byte.
func TestPlaceOfAllSmallTexts(t *testing.T) {
	for _, src := range textsUpTo(8) {
		line, col := 1, 1
		for at := 0; at <= len(src); at++ {
			wantPlace(t, src, at, line, col, api.Fault{})
			col++
			if at < len(src) && src[at] == '\n' {
				line, col = line+1, 1
			}
		}
	}
}

// P1.2
func TestPlaceBeyondTheText(t *testing.T) {
	outside := fault(api.ErrRange, -1)
	for _, src := range []string{"", "ab", "ab\n", "ab\ncd", strings.Repeat("x", api.MaxText)} {
		for _, at := range []int{-1, -2, math.MinInt, len(src) + 1, len(src) + 2, math.MaxInt} {
			wantPlace(t, src, at, 0, 0, outside)
		}
	}
}

// P1.2
func TestPlaceAtTheLimit(t *testing.T) {
	full := strings.Repeat("x", api.MaxText)
	wantPlace(t, full, 0, 1, 1, api.Fault{})
	wantPlace(t, full, api.MaxText, 1, api.MaxText+1, api.Fault{})
	newlines := strings.Repeat("\n", api.MaxText)
	wantPlace(t, newlines, api.MaxText, api.MaxText+1, 1, api.Fault{})
	wantPlace(t, newlines, api.MaxText-1, api.MaxText, 1, api.Fault{})
	// The size is told ahead of the range.
	for _, at := range []int{0, 1, api.MaxText + 1, -1, api.MaxText + 2, math.MinInt, math.MaxInt} {
		wantPlace(t, full+"x", at, 0, 0, fault(api.ErrSize, -1))
	}
}
