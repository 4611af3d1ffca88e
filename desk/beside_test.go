package desk

import (
	"strings"
	"testing"
)

// P1: two desks know nothing of each other.
func TestBeside(t *testing.T) {
	a, b := begun(t, drains, 5), begun(t, handsOn, 6)
	before := view(t, b)
	tells(t, a, told("ran 4", "no 2:1 form", "what"), "run 9", "|}", "check", "run 9")
	if after := view(t, b); after != before {
		t.Fatalf("%s became %s", before, after)
	}
	tells(t, a, "", "new", "|x")
	tells(t, b, told("steps", "yes 7", "begun"), "step 0", "check", "begin 4 5")
	tells(t, a, told("no 1:1 form"), "check")
	nothing(t, New())
}

// P1: desks with the same text run it each for itself.
func TestSameText(t *testing.T) {
	a, b := has(t, drains), has(t, drains)
	tells(t, a, "begun\nran 1\nchan 0 0 there 2\n", "begin 4 5 6", "run 1", "chans")
	tells(t, b, "what\nbegun\nchan 0 0 there 1\n", "chans", "begin 7", "chans")
	tells(t, a, "chan 0 0 there 2\n", "chans")
	tells(t, b, "ran 4\n", "run 100")
	tells(t, a, "task 0 main ready\nchan 0 0 there 2\n", "tasks", "chans")
}

// P1: many desks in turn, each held against a plain reckoning of its own.
func TestManyBeside(t *testing.T) {
	type pair struct {
		desk  *Desk
		plain *plain
		lines []string
	}
	c := newClerk(51)
	var pairs []*pair
	for range 12 {
		lines := c.lines(200)
		pairs = append(pairs, &pair{New(), newPlain(), lines}, &pair{New(), newPlain(), lines})
	}
	for range 2400 {
		p := oneOf(c, pairs...)
		if len(p.lines) == 0 {
			continue
		}
		n := min(len(p.lines), 1+c.Intn(5))
		alike(t, p.desk, p.plain, p.lines[:n])
		p.lines = p.lines[n:]
	}
	for _, p := range pairs {
		alike(t, p.desk, p.plain, p.lines)
	}
}

// P1: desks that are asked at the same time.
func TestAtTheSameTime(t *testing.T) {
	const desks = 12
	lines := newClerk(52).lines(200)
	want := does(t, New(), lines...)
	got := make(chan string)
	for range desks {
		go func() {
			d := New()
			var told strings.Builder
			for _, line := range lines {
				s, _ := d.Do([]string{line})
				told.WriteString(s)
			}
			got <- told.String()
		}()
	}
	for range desks {
		if told := <-got; told != want {
			t.Errorf("%s, want %s", told, want)
		}
	}
}
