package desk

import (
	"strings"
	"testing"

	"pipewright/api"
)

// P20.1: a line that begins with | is one of the text, with all that stands behind
// that; it tells nothing.
func TestTextLines(t *testing.T) {
	d := played(t, `
		|stage main(in recv int)
		| {
		|   drain in;
		|# check new | \
		|}
		check => yes 1
		print => stage main(in recv int) { / 	drain in; / }`)
	// More of it, once it is checked.
	plays(t, d, `
		|#
		|stage f() { }
		check => yes 1
		judge => fine 0 0
		|stage
		judge => fine 0 0
		check => no 8:6 short
		judge => what`)
	// What stands behind the first | alone.
	tells(t, New(), "no 1:1 text\n", "||"+drains, "check")
	tells(t, New(), "no 1:2 text\n", "| |"+drains, "check")
	// A | that does not begin the line is one of a word.
	tells(t, New(), "what\nwhat\nno 1:1 short\n", " |"+drains, "x|", "check")
}

// P20.1: its lines are joined by newlines: none ahead, none behind, one for each |
// alone.
func TestTextLinesAreJoined(t *testing.T) {
	for n := range 6 {
		bare := strings.Split(strings.Repeat("|,", n), ",")[:n]
		// A place ahead of all but n lines.
		tells(t, New(), "no "+decimal(n+1)+":1 text\n", append(bare, "|?", "check")...)
		tells(t, New(), "no "+decimal(max(n, 1))+":1 short\n", append(bare, "check")...)
		tells(t, New(), "no "+decimal(n+2)+":2 short\n", append(append([]string{"|stage a("}, bare...), "| ", "check")...)
	}
	tells(t, New(), "no 3:3 form\n", "|stage a(", "|  b", "|  c", "check", "|#")
	tells(t, New(), "no 1:9 short\n", "|stage a(", "check")
	tells(t, New(), "no 2:1 short\n", "|stage a(", "|", "check")
	// A newline parts tokens, and ends remarks.
	tells(t, New(), "yes 0\n", "|stage", "|main", "|(", "|in recv", "|int) {", "|}", "check")
	tells(t, New(), "no 1:1 form\n", "|st", "|age main(in recv int) { }", "check")
	tells(t, New(), "yes 0\n", "|#", "|stage main(in recv int) { #", "|} #", "check")
	tells(t, New(), "no 2:1 form\n", "|stage a() { emit", "|;", "check")
}

// P20.1: any bytes may be written.
func TestTextOfAnyBytes(t *testing.T) {
	for b := range 256 {
		if b == '\n' {
			continue
		}
		x := string([]byte{byte(b)})
		tells(t, New(), "yes 1\n", "|#"+x, "|"+drains+"#"+x, "check")
		want := "no 1:1 text\n"
		switch {
		case strings.Contains(" \t\r#", x):
			want = "no 1:1 short\n"
		case strings.Contains("(){},;+-*<=", x), strings.Contains("abcdefghijklmnopqrstuvwxyz0123456789", x):
			want = "no 1:1 form\n"
		}
		if b == ' ' || b == '\t' || b == '\r' || b == '#' {
			want = "no 1:2 short\n"
		}
		tells(t, New(), want, "|"+x, "check")
	}
}

// P20.1: a line without words tells nothing, and does nothing.
func TestNoWords(t *testing.T) {
	d := begun(t, drains, 5)
	before := view(t, d)
	tells(t, d, "", "", " ", "  ", strings.Repeat(" ", 1000), "", "")
	tells(t, New(), "", "")
	if after := view(t, d); after != before {
		t.Errorf("%s became %s", before, after)
	}
	tells(t, d, "yes 1\n", "", " ", "check", "", "  ")
}

// P20.1: words are parted by blanks: as many as there are, at both ends, too.
func TestBlanks(t *testing.T) {
	d := has(t, drains)
	for _, between := range []string{" ", "  ", "     ", strings.Repeat(" ", 3000)} {
		for _, ahead := range []string{"", " ", "   "} {
			for _, behind := range []string{"", " ", "   "} {
				line := func(words ...string) string { return ahead + strings.Join(words, between) + behind }
				tells(t, d, "yes 1\nbegun\nsteps\nran 3\nout\nbound 8\nfine 0 0\nwhat\n",
					line("check"), line("begin", "5", "6"), line("step", "0"), line("run", "3"), line("out"), line("bound", "5"), line("judge"), line("why", "0"))
			}
		}
	}
}

// P20.1: no other byte parts words.
func TestOtherBytes(t *testing.T) {
	d := begun(t, drains, 5)
	for b := range 256 {
		x := string([]byte{byte(b)})
		if strings.Contains("\n ", x) {
			continue
		}
		if b != '|' {
			tells(t, d, "what\nwhat\nwhat\n", x, x+"out", x+" out")
		}
		tells(t, d, "what\nwhat\n", "out"+x, "tasks"+x)
		if b < '0' || b > '9' {
			tells(t, d, "what\nwhat\nwhat\n", "step"+x+"0", "step 0"+x, "begin 1"+x+"2")
		}
		if b < '0' || b > '9' {
			tells(t, d, "what\nwhat\n", "step "+x, "begin 1 "+x)
		}
	}
	for _, x := range []string{"\u00a0", "\u2003", "\u3000", "\u0085", "\u200b", "\ufeff"} {
		tells(t, d, "what\nwhat\nwhat\nwhat\nwhat\n", x, x+"out", "out"+x, "step"+x+"0", "step 0"+x)
	}
	tells(t, d, "task 0 main ready\n", "tasks")
}

// P20.1: words that there are not: what.
func TestOtherWords(t *testing.T) {
	d := begun(t, drains, 5)
	for _, word := range strings.Fields("what x New CHECK Check chec checks judges jugde whys w y bounds prints begins begun steps stays runs ran task chan event outs yes no fine round way exit quit help ; # 0 1 -1 new; new| N .. say text help? stage drain Step STEP Run Out Tasks Begin Judge") {
		for _, behind := range []string{"", " 0", " 0 1", " 0 1 2", " x"} {
			tells(t, d, "what\n", word+behind)
		}
	}
	// Nor are those which the tables have for numbers.
	tells(t, d, "what\nwhat\nwhat\nwhat\n", "why N", "step N", "begin N ..", "begin ..")
	tells(t, d, "task 0 main ready\nyes 1\n", "tasks", "check")
}

// P20.1: too few numbers, or too many: what, and nothing is done.
func TestHowManyNumbers(t *testing.T) {
	wants := map[string]int{"new": 0, "check": 0, "judge": 0, "why": 1, "bound": 1, "print": 0, "step": 1, "run": 1, "tasks": 0, "chans": 0, "events": 0, "out": 0}
	d := begun(t, main("chan s r int 1; close s; close s; drain in;"), 5)
	before := view(t, d)
	for word, want := range wants {
		for n := range 6 {
			if n != want {
				tells(t, d, "what\n", word+strings.Repeat(" 0", n))
			}
		}
		tells(t, d, "what\n", word+strings.Repeat(" 1", api.MaxText/2-4))
	}
	if after := view(t, d); after != before {
		t.Errorf("%s became %s", before, after)
	}
	for word, want := range wants {
		if word != "new" && word != "check" {
			if told := does(t, d, word+strings.Repeat(" 0", want)); told == "what\n" {
				t.Errorf("%s: %s", word, told)
			}
		}
	}
}
