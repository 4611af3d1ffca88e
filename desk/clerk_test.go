package desk

import (
	"fmt"
	"math/rand"
	"slices"
	"strings"
)

// clerk draws lines to be done.
type clerk struct {
	*rand.Rand
	texts []string
}

// careless are programs that use most of their ends wrongly.
var careless = []string{
	"stage f(a send int) { }\n" + main("chan n1 n2 int 1; close n1; send n1 5; close n1; clone n3 n1; close n3; send n3 1; chan n4 n5 int 1; spawn f(n4); send n4 6; close n4; drain in;"),
	"stage f(a recv int) { }\n" + main("spawn f(in); drain in; abandon in; for n1 from in { emit n1; } take n2 from in { } else { emit 3; } spawn f(in);"),
	main("chan n1 n2 send int 1; chan n3 n4 int 1; send n1 n3; send n1 n3; send n3 1; close n3; take n5 from n2 { send n5 1; close n5; clone n6 n5; close n6; } close n3; drain in; drain n2; drain n2;"),
	"stage f(a send int, b recv int) { close a; drain b; }\n" + main("chan n1 n2 int 2; spawn f(n1, n2); close n1; abandon n2; repeat 2 { send n1 1; drain n2; }"),
}

// newClerk has programs of many kinds to draw from, and texts that are none.
func newClerk(seed int64) *clerk {
	texts := slices.Concat(tidied(seed, 30), woven(seed, 20), scribbled(seed, 60), careless, careless,
		[]string{"", "#", drains, handsOn, wide(30), wide(35), wide(40), many(8) + main("spawn p8(); drain in;"), main("x")})
	return &clerk{rand.New(rand.NewSource(seed)), texts}
}

func oneOf[T any](c *clerk, list ...T) T { return list[c.Intn(len(list))] }

// src is one of the texts; now and then it is spoilt.
func (c *clerk) src() string {
	src := oneOf(c, c.texts...)
	if c.Intn(3) > 0 || len(src) < 2 {
		return src
	}
	at := c.Intn(len(src))
	switch c.Intn(10) {
	case 0:
		return src[:at] + oneOf(c, "?", "Q", "\xff", "(", "}", ";", " ", "0", "x") + src[at:]
	case 1:
		return src[:at] + src[min(len(src), at+1+c.Intn(6)):]
	case 2:
		return src + "\n" + oneOf(c, c.texts...)
	case 3:
		return src + strings.Repeat(strings.Repeat(" ", 3000)+"\n", c.Intn(7))
	case 4:
		return strings.Replace(src, "main", oneOf(c, "f", "p0"), 1)
	case 5:
		return withFewer(src)
	}
	return c.otherWords(src)
}

// withFewer hands on, or is handed, one thing less.
func withFewer(src string) string {
	from := strings.LastIndex(src, ", ")
	if from < 0 {
		return src
	}
	return src[:from] + src[from+strings.Index(src[from:], ")"):]
}

// otherWords has other words in the stead of some: often a name that is not known,
// or not of that type.
func (c *clerk) otherWords(src string) string {
	words := strings.FieldsFunc(src, func(r rune) bool { return !(r >= 'a' && r <= 'z' || r >= '0' && r <= '9') })
	word := oneOf(c, words...)
	at := strings.Index(src, word)
	if c.Intn(2) == 0 {
		at = strings.LastIndex(src, word)
	}
	other := oneOf(c, oneOf(c, words...), oneOf(c, words...), "n1", "n2", "in", "zz", "abcdefghijklm", "01", "send int", "main", "p0", "7")
	return src[:at] + other + src[at+len(word):]
}

// parted lays a text on lines, wherever blanks are.
func (c *clerk) parted(src string) []string {
	for range c.Intn(20) {
		if at := strings.LastIndex(src[:c.Intn(len(src)+1)], " "); at >= 0 {
			src = src[:at] + "\n" + src[at+1:]
		}
	}
	return written(src)
}

// program writes a text and asks for it to be checked, often on a new desk.
func (c *clerk) program() []string {
	lines := c.parted(c.src())
	if c.Intn(12) > 0 {
		lines = append([]string{"new"}, lines...)
	}
	if c.Intn(20) > 0 {
		lines = append(lines, "check")
	}
	if c.Intn(5) > 0 {
		lines = append(lines, "begin"+c.numbers(c.Intn(6)))
	}
	if c.Intn(3) == 0 {
		lines = append(lines, "run 500", "events")
	}
	return lines
}

func (c *clerk) number() string {
	switch c.Intn(12) {
	case 0:
		return oneOf(c, right...)
	case 1:
		return fmt.Sprint(-c.Intn(5))
	}
	return fmt.Sprint(c.Intn(6))
}

func (c *clerk) numbers(n int) string {
	all := ""
	for range n {
		all += " " + c.number()
	}
	return all
}

// command is one of the tables' lines, mostly with as many numbers as it takes.
func (c *clerk) command() string {
	switch c.Intn(24) {
	case 0:
		return "judge"
	case 1, 2:
		return "why " + c.number()
	case 3:
		return "bound " + c.number()
	case 4:
		return "print"
	case 5:
		return "begin" + c.numbers(c.Intn(6))
	case 6, 7, 8, 9, 10:
		return "step " + c.number()
	case 11, 12:
		return fmt.Sprint("run ", c.Intn(20))
	case 13:
		return "run " + oneOf(c, "0", "1", "300", "300", "100001", "-1", greatest)
	case 14, 15:
		return "tasks"
	case 16, 17:
		return "chans"
	case 18, 19, 20:
		return "events"
	case 21:
		return "out"
	case 22:
		return oneOf(c, "check", "check", "check", "judge", "judge", "new")
	}
	return c.odd()
}

// odd is a line that is not as it should be, or as one would say it.
func (c *clerk) odd() string {
	line := oneOf(c, oneOf(c, all...), oneOf(c, all...), "new")
	at := c.Intn(len(line) + 1)
	switch c.Intn(8) {
	case 0:
		return ""
	case 1:
		return strings.Repeat(" ", c.Intn(5))
	case 2:
		return strings.Repeat(" ", c.Intn(4)) + strings.ReplaceAll(line, " ", "   ") + strings.Repeat(" ", c.Intn(4))
	case 3:
		return line + " " + oneOf(c, wrong...)
	case 4:
		return line + c.numbers(1+c.Intn(3))
	case 5:
		return line[:at] + oneOf(c, "\t", "\x00", "|", "x", "N", "\r", "0", " ", "\u00a0") + line[at:]
	case 6:
		return strings.ToUpper(line[:1]) + line[1:]
	}
	return strings.Fields(line)[0]
}

// lines are many of them, text and commands.
func (c *clerk) lines(least int) []string {
	lines := c.program()
	for len(lines) < least {
		if c.Intn(15) == 0 {
			lines = append(lines, c.program()...)
		} else {
			lines = append(lines, c.command())
		}
	}
	return lines
}
