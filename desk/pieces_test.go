package desk

import (
	"slices"
	"strings"
	"testing"

	"pipewright/api"
)

// inPieces does lines by several Do, cut where it is said, and answers all that
// they tell.
func inPieces(t *testing.T, d *Desk, lines []string, cuts ...int) string {
	t.Helper()
	slices.Sort(cuts)
	var told strings.Builder
	from := 0
	for _, cut := range append(cuts, len(lines)) {
		told.WriteString(does(t, d, lines[from:cut]...))
		from = cut
	}
	return told.String()
}

// P20, 'What follows': two Do one behind the other: cut at each place.
func TestTwoDo(t *testing.T) {
	for seed := range int64(30) {
		lines := newClerk(1000 + seed).lines(60)
		one := New()
		want := does(t, one, lines...)
		last := does(t, one, all...)
		for cut := range len(lines) + 1 {
			d := New()
			if told := inPieces(t, d, lines, cut); told != want {
				t.Fatalf("drawn from %d, cut at %d: %s, want %s", seed, cut, told, want)
			}
			if told := does(t, d, all...); told != last {
				t.Fatalf("drawn from %d, cut at %d, at last: %s, want %s", seed, cut, told, last)
			}
		}
	}
}

// P20, 'What follows': many Do: cut anywhere, also at one place more than once.
func TestManyDo(t *testing.T) {
	for seed := range int64(60) {
		c := newClerk(2000 + seed)
		lines := c.lines(200)
		if len(lines) > api.MaxLines {
			continue
		}
		want := does(t, New(), lines...)
		for range 5 {
			var cuts []int
			for range c.Intn(40) {
				cuts = append(cuts, c.Intn(len(lines)+1))
			}
			if told := inPieces(t, New(), lines, cuts...); told != want {
				t.Fatalf("drawn from %d, cut at %v: %s, want %s", seed, cuts, told, want)
			}
		}
		var each []int
		for n := range lines {
			each = append(each, n)
		}
		if told := inPieces(t, New(), lines, each...); told != want {
			t.Fatalf("drawn from %d, line by line: %s, want %s", seed, told, want)
		}
	}
}

// P20, 'What follows': a Do that is refused in between is as none.
func TestRefusedInBetween(t *testing.T) {
	for seed := range int64(40) {
		c := newClerk(3000 + seed)
		lines := c.lines(80)
		want := does(t, New(), lines...)
		d := New()
		var told strings.Builder
		for n, line := range lines {
			told.WriteString(does(t, d, line))
			wrong := append(slices.Clone(c.lines(3)), oneOf(c, "a\nb", "\n", "|\n", strings.Repeat("x", api.MaxText+1)))
			if n%2 == 0 {
				wrong = slices.Repeat([]string{oneOf(c, all...)}, api.MaxLines+1)
			}
			if told, f := d.Do(wrong); f.Code == 0 || told != "" {
				t.Fatalf("%q: %q %v", wrong, told, f)
			}
		}
		if told.String() != want {
			t.Fatalf("drawn from %d: %s, want %s", seed, told.String(), want)
		}
	}
}

// P1: behind new the same lines tell the same once more, whatever came ahead.
func TestOnceMore(t *testing.T) {
	d := New()
	for seed := range int64(150) {
		lines := newClerk(4000 + seed).lines(60)
		want := does(t, New(), lines...)
		if told := does(t, d, append([]string{"new"}, lines...)...); told != want {
			t.Fatalf("drawn from %d: %s, want %s", seed, told, want)
		}
		if told := does(t, d, append([]string{"new"}, lines...)...); told != want {
			t.Fatalf("drawn from %d, once more: %s, want %s", seed, told, want)
		}
	}
}

// P1: what only tells tells the same again.
func TestTellsAgain(t *testing.T) {
	for seed := range int64(60) {
		c := newClerk(5000 + seed)
		d := New()
		for _, line := range c.lines(100) {
			does(t, d, line)
			if before, after := view(t, d), view(t, d); before != after {
				t.Fatalf("drawn from %d: behind %s: %s, and then %s", seed, line, before, after)
			}
		}
	}
}
