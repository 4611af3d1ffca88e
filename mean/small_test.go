package mean

import (
	"fmt"
	"strings"
	"testing"
)

// alone are statements that may stand anywhere behind the opening; # is a number
// that makes names differ.
var alone = []string{
	"emit n;", "set n = n + 1;", "send a n;", "close a;", "drain b;", "abandon b;", "clone z# a; close z#;", "clone z# a; send c b; send z# 1;",
	"drain in;", "send c in;", "drain d;", "spawn f(a);", "spawn g(b, n);", "chan u# v# int 1; send u# 2; close u#; drain v#;",
}

// within have one of those in a block.
var within = []string{
	"if n { @ }", "if n == 2 { } else { @ }", "repeat 2 { @ }", "repeat n - 2 { @ } emit 7;",
	"for x# from in { @ }", "take x# from in { @ } else { emit -1; }", "take x# from b { emit x#; } else { @ }", "for x# from d { drain x#; @ }",
}

const (
	small       = "stage f(s send int) { send s 5; send s 6; close s; } stage g(r recv int, k int) { take x from r { emit x + k; } drain r; }\n"
	smallBefore = "let n = 2; chan a b int 1; chan c d recv int 1;"
)

// smallOnes are all that there are of up to so many statements, some of which are
// within another one.
func smallOnes(most int) []string {
	row := append([]string{}, alone...)
	for _, w := range within {
		row = append(row, strings.ReplaceAll(w, "@", ""))
		for _, s := range alone {
			row = append(row, strings.ReplaceAll(w, "@", s))
		}
	}
	list, last := []string{""}, []string{""}
	for range most {
		var next []string
		for _, ahead := range last {
			for _, s := range row {
				next = append(next, ahead+"\n"+s)
			}
		}
		list, last = append(list, next...), next
	}
	return list
}

// numbered makes the names of each line differ.
func numbered(does string) string {
	var lines []string
	for n, line := range strings.Split(does, "\n") {
		lines = append(lines, strings.ReplaceAll(line, "#", fmt.Sprint(n)))
	}
	return strings.Join(lines, " ")
}

// P19, and what follows: all stages of up to two of these statements, held
// against the code, and against the plain reckoning, whoever is picked.
func TestAllSmall(t *testing.T) {
	a := newAuthor(31)
	for n, does := range smallOnes(2) {
		p := placed(parsed(t, small+"stage main(in recv int) { "+smallBefore+numbered(does)+" }"))
		x := a.pair(t, p)
		x.toEnd(t)
		if n%3 > 0 {
			continue
		}
		y := a.twin(t, p)
		for list := y.plain.ready(); len(list) > 0; list = y.plain.ready() {
			k := pick(a, list)
			if !y.mean.Step(k) || !y.plain.step(k) {
				t.Fatalf("%s: the task %d stays", does, k)
			}
			y.plain.alike(t, y.mean)
		}
		y.plain.close()
	}
}
