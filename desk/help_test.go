package desk

import (
	"fmt"
	"slices"
	"strings"
	"testing"
	"time"

	"pipewright/api"
)

const (
	least    = "-9223372036854775808"
	greatest = "9223372036854775807"
)

// drains is the chapter's example, of 38 bytes.
const drains = "stage main(in recv int) { drain in; }"

// all are lines, each of which tells something (behind what it needs).
var all = []string{"check", "judge", "why 0", "bound 1", "print", "begin 5", "step 0", "run 1", "tasks", "chans", "events", "out"}

func fault(code, at int) api.Fault { return api.Fault{Code: code, At: at} }

// lines parts a text.
func lines(src string) []string { return strings.Split(src, "\n") }

// written are the lines that write a text.
func written(src string) []string {
	var list []string
	for _, line := range lines(src) {
		list = append(list, "|"+line)
	}
	return list
}

// does is what lines tell, without a fault.
func does(t *testing.T, d *Desk, lines ...string) string {
	t.Helper()
	told, f := d.Do(lines)
	if f != fault(0, 0) {
		t.Fatalf("%q: %v, want no fault", lines, f)
	}
	return told
}

// tells asks for just what lines tell.
func tells(t *testing.T, d *Desk, want string, lines ...string) {
	t.Helper()
	if told := does(t, d, lines...); told != want {
		t.Fatalf("%q tell\n%q, want\n%q", lines, told, want)
	}
}

// plays goes through a script: of each line what it does, and, behind =>, what it
// tells, parted by /. All that is done ends with the line, or with two blanks.
func plays(t *testing.T, d *Desk, script string) {
	t.Helper()
	for _, line := range lines(script) {
		line = strings.TrimLeft(line, "\t")
		if line == "" {
			continue
		}
		do, want, is := strings.Cut(line, "=>")
		if is {
			do, want = strings.TrimRight(do, " "), told(strings.Split(strings.TrimSpace(want), " / ")...)
		}
		tells(t, d, want, do)
	}
}

// told are lines, each ended by a newline.
func told(lines ...string) string { return strings.Join(lines, "\n") + "\n" }

// played is a new desk that a script is played on.
func played(t *testing.T, script string) *Desk {
	t.Helper()
	d := New()
	plays(t, d, script)
	return d
}

// has is a desk whose program a text is.
func has(t *testing.T, src string) *Desk {
	t.Helper()
	d := New()
	if told := does(t, d, append(written(src), "check")...); !strings.HasPrefix(told, "yes ") {
		t.Fatalf("%s: %s", src, told)
	}
	return d
}

// main is the text of one stage, main, that does this.
func main(does string) string { return "stage main(in recv int) { " + does + " }" }

// begun has such a program, and it is run.
func begun(t *testing.T, src string, in ...int64) *Desk {
	t.Helper()
	d := has(t, src)
	tells(t, d, "begun\n", strings.TrimSpace("begin "+strings.Trim(fmt.Sprint(in), "[]")))
	return d
}

// view is all that a desk tells that changes nothing.
func view(t *testing.T, d *Desk) string {
	t.Helper()
	list := slices.DeleteFunc(slices.Clone(all), func(line string) bool {
		return slices.Contains([]string{"check", "begin 5", "step 0", "run 1"}, line)
	})
	return does(t, d, append(list, "run 0", "step -1")...)
}

// nothing: there is no program, and nothing is run.
func nothing(t *testing.T, d *Desk) {
	t.Helper()
	tells(t, d, strings.Repeat("what\n", len(all)-1), all[1:]...)
}

// notRun: there is a program, and nothing of it is run.
func notRun(t *testing.T, d *Desk) {
	t.Helper()
	tells(t, d, strings.Repeat("what\n", 6), all[6:]...)
	if told := does(t, d, "bound 0"); told == "what\n" {
		t.Fatal("there is no program")
	}
}

// inTime fails where something takes far longer than it should.
func inTime(t *testing.T, what string, do func()) {
	t.Helper()
	begun := time.Now()
	do()
	if took := time.Since(begun); took > 30*time.Second {
		t.Errorf("%s: %v", what, took)
	}
}
