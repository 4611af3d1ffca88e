package desk

import (
	"strings"
	"testing"
)

// P1, P20: any bytes, parted into lines, held against a plain reckoning.
func FuzzDo(f *testing.F) {
	c := newClerk(71)
	for range 30 {
		f.Add(strings.Join(c.lines(20), "\n"))
	}
	f.Add("")
	f.Add("|" + drains + "\ncheck\njudge\nbegin 5\nrun 9\nout")
	f.Add("|" + careless[0] + "\ncheck\nwhy 0\nbegin -1\nrun 100\nevents")
	f.Fuzz(func(t *testing.T, script string) {
		list := lines(script)
		if len(list) > 60 || strings.Count(script, "run ") > 10 {
			return
		}
		want, bad := newPlain().do(list)
		if told, f := New().Do(list); told != want || f != bad {
			t.Fatalf("%q tell %q %v, want %q %v", list, told, f, want, bad)
		}
	})
}
