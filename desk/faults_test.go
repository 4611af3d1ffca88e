package desk

import (
	"slices"
	"strings"
	"testing"

	"pipewright/api"
)

// refuses asks for a fault, and that nothing is told, and nothing done.
func refuses(t *testing.T, d *Desk, want api.Fault, lines ...string) {
	t.Helper()
	before, given := view(t, d), slices.Clone(lines)
	told, f := d.Do(lines)
	if f != want || told != "" {
		t.Fatalf("%d lines: %q %v, want %v", len(lines), told, f, want)
	}
	if after := view(t, d); after != before {
		t.Fatalf("what is told was\n%sand is\n%s", before, after)
	}
	if !slices.Equal(lines, given) {
		t.Fatal("what is handed in is changed")
	}
}

// P20.1: more than MaxLines lines; just as many are none too many.
func TestTooManyLines(t *testing.T) {
	d := begun(t, drains)
	for _, line := range []string{"", "step 0", "|", "new", "check", "what", "a\nb", strings.Repeat("x", api.MaxText+1)} {
		for _, n := range []int{api.MaxLines + 1, api.MaxLines + 2, 2 * api.MaxLines, 100 * api.MaxLines} {
			refuses(t, d, fault(api.ErrMany, -1), slices.Repeat([]string{line}, n)...)
		}
	}
	tells(t, d, "", slices.Repeat([]string{""}, api.MaxLines)...)
	tells(t, d, strings.Repeat("what\n", api.MaxLines), slices.Repeat([]string{"what"}, api.MaxLines)...)
	tells(t, d, strings.Repeat("what\n", api.MaxLines-1), slices.Repeat([]string{"what"}, api.MaxLines-1)...)
	// The lines of one Do count, not those of all.
	for range 3 {
		tells(t, d, strings.Repeat("stays\n", api.MaxLines), slices.Repeat([]string{"step 9"}, api.MaxLines)...)
	}
	tells(t, d, "")
}

// P20.1: a line that is too long, and one just as long as may be.
func TestTooLongALine(t *testing.T) {
	d := begun(t, drains)
	for _, begin := range []string{"|", "", " ", "new ", "step 0 ", "check"} {
		for _, x := range []string{" ", "x", "1", "\xff", "\x00", "é"} {
			most := begin + strings.Repeat(x, (api.MaxText-len(begin))/len(x))
			for n, line := range []string{most + x, most + x + x, strings.Repeat(most, 3)} {
				refuses(t, d, fault(api.ErrText, 0), line)
				refuses(t, d, fault(api.ErrText, 0), line, line)
				refuses(t, d, fault(api.ErrText, 3), "step 0", "new", "|x", line, "check", line)
				refuses(t, d, fault(api.ErrText, n), append(slices.Repeat([]string{"begin"}, n), line)...)
			}
			if _, f := New().Do([]string{most, most}); f != fault(0, 0) {
				t.Fatalf("a line of %d bytes: %v", len(most), f)
			}
		}
	}
	tells(t, d, "", "|"+strings.Repeat("x", api.MaxText-1))
	tells(t, d, "", strings.Repeat(" ", api.MaxText))
	tells(t, d, "what\n", strings.Repeat("x", api.MaxText))
}

// P20.1: a newline, wherever it stands; the first such line is told, and nothing
// is done, of those ahead of it, either.
func TestNewlines(t *testing.T) {
	d := begun(t, drains)
	for _, line := range []string{"\n", "step 0\n", "\nstep 0", "step\n0", "|\n", "|a\nb", "\n|", " \n ", "new\nnew", "\n\n", "x\n", "\r\n"} {
		for n := range 5 {
			ahead := []string{"step 0", "|x", "new", "check", "begin 7"}[:n]
			refuses(t, d, fault(api.ErrText, n), append(ahead, line)...)
			refuses(t, d, fault(api.ErrText, n), append(append(ahead, line), "new", line, strings.Repeat("x", api.MaxText+1))...)
		}
		refuses(t, d, fault(api.ErrText, api.MaxLines-1), append(slices.Repeat([]string{"step 0"}, api.MaxLines-1), line)...)
		// Too many lines are told ahead of that.
		refuses(t, d, fault(api.ErrMany, -1), append(slices.Repeat([]string{"step 0"}, api.MaxLines), line)...)
		refuses(t, d, fault(api.ErrMany, -1), slices.Repeat([]string{line}, api.MaxLines+1)...)
	}
	// No other byte is one.
	for b := range 256 {
		line := "x" + string([]byte{byte(b)})
		_, f := d.Do([]string{line, "|" + line})
		if (f == fault(api.ErrText, 0)) != (b == '\n') || f.Code == 0 != (b != '\n') {
			t.Errorf("the byte %d: %v", b, f)
		}
	}
}

// P20.1: a desk that is not asked right at first is none the worse for it.
func TestFaultsOfANewDesk(t *testing.T) {
	d := New()
	refuses(t, d, fault(api.ErrText, 1), "|"+drains, "\n")
	tells(t, d, "no 1:1 short\n", "check")
	refuses(t, d, fault(api.ErrText, 2), "|"+drains, "check", "\n")
	nothing(t, d)
	refuses(t, d, fault(api.ErrMany, -1), slices.Repeat([]string{"|"}, api.MaxLines+1)...)
	tells(t, d, "yes 1\n", "|"+drains, "check")
	refuses(t, d, fault(api.ErrText, 1), "|x", "begin\n")
	tells(t, d, "yes 1\nwhat\n", "check", "out")
}
