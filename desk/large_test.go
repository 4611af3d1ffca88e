package desk

import (
	"slices"
	"strings"
	"testing"

	"pipewright/api"
)

// deep has a text within six repeats of six turns.
func deep(does string) string {
	return strings.Repeat("repeat 6 { ", 6) + does + strings.Repeat(" }", 6)
}

const sixes = 6 * 6 * 6 * 6 * 6 * 6

// P1: very many tasks and channels, of which but a few are not over.
func TestManyTasks(t *testing.T) {
	inTime(t, "tasks", func() {
		d := begun(t, "stage f(s send int) { close s; }\n"+main("drain in; repeat 2 {"+strings.Repeat("repeat 6 { ", 5)+"chan s r int 1; spawn f(s); abandon r;"+strings.Repeat(" }", 6)))
		for range 10 {
			does(t, d, "run 100000")
		}
		const n = 2 * 6 * 6 * 6 * 6 * 6
		tasks, chans := does(t, d, "tasks"), does(t, d, "chans")
		if strings.Count(tasks, "\n") != n+1 || strings.Count(tasks, " over\n") != n+1 {
			t.Errorf("%d tasks are over", strings.Count(tasks, " over\n"))
		}
		if strings.Count(chans, "\n") != n+1 || strings.Count(chans, " 0 gone 0\n") != n+1 {
			t.Errorf("%d channels are gone", strings.Count(chans, " 0 gone 0\n"))
		}
		tells(t, d, told("out", "stays", "ran 0"), "events", "out", "step "+decimal(n), "run 100000")
	})
}

// P1: very many events, and much that is emitted.
func TestManyEvents(t *testing.T) {
	inTime(t, "events", func() {
		d := begun(t, main("drain in; let n = 0; chan s r int 1; close s; abandon r; "+deep("set n = n + 1; emit n; close s;")))
		for does(t, d, "run 100000") == "ran 100000\n" {
		}
		list, out := lines(does(t, d, "events")), strings.Fields(does(t, d, "out"))
		if len(list) != sixes+1 || !strings.HasPrefix(list[sixes-1], "event twice 0 ") || len(out) != sixes+1 || out[sixes] != "46656" {
			t.Errorf("%d events, %d emitted", len(list)-1, len(out)-1)
		}
	})
}

// P1: the greatest scripts: of each line as many as may be.
func TestManyLines(t *testing.T) {
	c := newClerk(61)
	texts := []string{c.texts[0], handsOn, long, main(strings.Repeat("emit 1+1+1; ", api.MaxStmts-1) + "drain in;"), careless[0], wide(29)}
	for _, src := range texts {
		for _, line := range all {
			inTime(t, line, func() {
				d := begun(t, src, 1, 2, 3)
				does(t, d, "run 100")
				one := does(t, d, line)
				told := does(t, d, slices.Repeat([]string{line}, api.MaxLines)...)
				if !strings.HasPrefix(line, "run") && !strings.HasPrefix(line, "step") && told != strings.Repeat(one, api.MaxLines) {
					t.Errorf("%s tells something else, once it was asked", line)
				}
			})
		}
	}
}

// P1: as many lines as may be, each as long as may be, again and again.
func TestLongLines(t *testing.T) {
	inTime(t, "lines", func() {
		d := New()
		for range 20 {
			tells(t, d, "", slices.Repeat([]string{"|" + strings.Repeat("x", api.MaxText-1)}, api.MaxLines)...)
		}
		tells(t, d, "no size\n", "check")
		numbers := "begin" + strings.Repeat(" 7", api.MaxText/2-3)
		tells(t, d, strings.Repeat("what\n", api.MaxLines), slices.Repeat([]string{numbers}, api.MaxLines)...)
		tells(t, d, "yes 1\n", "new", "|"+drains, "check")
		tells(t, d, strings.Repeat("no many\n", api.MaxLines), slices.Repeat([]string{numbers}, api.MaxLines)...)
		tells(t, d, strings.Repeat("what\n", api.MaxLines), slices.Repeat([]string{strings.Repeat("a ", api.MaxText/2)}, api.MaxLines)...)
	})
}

// P1: a text line by line, up to as long as may be and beyond, checked as it grows.
func TestGrowingText(t *testing.T) {
	inTime(t, "text", func() {
		d := New()
		for n := range 40 {
			tells(t, d, "", slices.Repeat([]string{"|#"}, api.MaxLines)...)
			want := "no " + decimal((n+1)*api.MaxLines) + ":2 short\n"
			if (n+1)*api.MaxLines*2-1 > api.MaxText {
				want = "no size\n"
			}
			tells(t, d, want, "check")
		}
	})
}

// P1: what never ends runs on, as far as is asked for.
func TestForEver(t *testing.T) {
	inTime(t, "for ever", func() {
		d := begun(t, "stage f(a recv int, b send int) { for x from a { send b x + 1; } drain a; close b; }\n"+
			main("chan s r int 1; chan u v int 1; send u 1; spawn f(r, u); spawn f(v, s); drain in;"))
		tells(t, d, strings.Repeat("ran 100000\n", 30), slices.Repeat([]string{"run 100000"}, 30)...)
		tells(t, d, told("out"), "events", "out")
	})
}
