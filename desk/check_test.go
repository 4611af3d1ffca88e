package desk

import (
	"fmt"
	"strings"
	"testing"

	"pipewright/api"
)

// says asks for what check tells of a text.
func says(t *testing.T, src, want string) {
	t.Helper()
	d := New()
	for part := lines(src); len(part) > 0; part = part[min(len(part), api.MaxLines):] {
		tells(t, d, "", written(strings.Join(part[:min(len(part), api.MaxLines)], "\n"))...)
	}
	for range 2 {
		tells(t, d, want+"\n", "check")
	}
	if strings.HasPrefix(want, "no") {
		nothing(t, d)
	} else {
		notRun(t, d)
	}
}

// P20.1: yes, and how many statements there are, at any depth.
func TestYes(t *testing.T) {
	for src, want := range map[string]string{
		main(""): "yes 0",
		drains:   "yes 1",
		main("if 1 { emit 1; emit 2; } else { emit 3; } drain in;"):                                                "yes 5",
		"stage f() { emit 1; }\n" + main("repeat 2 { for x from in { emit x; spawn f(); } } drain in;"):            "yes 6",
		"# a remark\n\n\t" + drains + "\r\n":                                                                       "yes 1",
		main(strings.Repeat("emit 1; ", api.MaxStmts)):                                                             "yes 300",
		main("repeat 1 { repeat 1 { repeat 1 { repeat 1 { repeat 1 { repeat 1 { repeat 1 { emit 1; } } } } } } }"): "yes 8",
		strings.Repeat("#\n", 500) + drains:                                                                        "yes 1",
		drains + "#" + strings.Repeat("x", api.MaxText-len(drains)-1-1):                                            "yes 1",
	} {
		says(t, src, want)
	}
}

// P20.1: no, and the fault, as text.Tell says: of words.
func TestNoOfWords(t *testing.T) {
	for src, want := range map[string]string{
		"?":                              "1:1 text",
		"stage\n  a() { $ }":             "2:9 text",
		"stage abcdefghijklm() { }":      "1:7 name",
		"stage f()\n{ emit 012; }":       "2:8 number",
		"stage f() { emit 5x; }":         "1:18 number",
		"stage A() { }":                  "1:7 text",
		"stage f() { emit 1; }\n\n\n\"":  "4:1 text",
		"stage f() { emit 1 ! 2; }":      "1:20 text",
		"stage \xff":                     "1:7 text",
		"emit 1234567890123456789;":      "1:6 number",
		"\tstage f() { # é\n\temit é; }": "2:7 text",
	} {
		says(t, src, "no "+want)
	}
}

// P20.1: of the grammar.
func TestNoOfGrammar(t *testing.T) {
	deep := strings.Repeat("if 1 { ", api.MaxDepth)
	for src, want := range map[string]string{
		"":                                     "1:1 short",
		"# nothing\n":                          "2:1 short",
		"stage a(":                             "1:9 short",
		"stage a( { }":                         "1:10 form",
		"stage main(in recv int)\n{\n emit":    "3:6 short",
		"stage main(in recv int)\n{\n emit\n;": "4:1 form",
		main("emit 1") + ";":                   "1:34 form",
		drains + "\n}":                         "2:1 form",
		strings.Repeat("stage f() { }\n", 10) + drains:                   "11:1 many",
		main(strings.Repeat("emit 1;", api.MaxStmts) + "\nemit 1;"):      "2:1 many",
		"stage f(a int, b int, c int, d int, e int, g int,\n h int) { }": "2:2 many",
		main("emit\n1" + strings.Repeat("+1", 11) + ";"):                 "2:1 many",
		main("\n" + deep): "2:55 deep",
		main("emit\n" + strings.Repeat("(", api.MaxOpen+1) + "1"): "2:61 deep",
		"stage f(a send send send\nsend int) { }":                 "2:1 deep",
		main("let if = 1;"): "1:31 form",
	} {
		says(t, src, "no "+want)
	}
}

// P20.1: of names and types at a statement: its place, whichever block it stands
// in.
func TestNoAtAStatement(t *testing.T) {
	for _, c := range []struct{ does, want string }{
		{"emit x;", "2:1 none"},
		{"let a = 1;\nlet b = 2;\n  let c = d;", "4:3 none"},
		{"let a = 1;\nlet in = 2;", "3:1 twice"},
		{"send in 1;", "2:1 type"},
		{"let a = 1; close a;", "2:12 type"},
		{"spawn f();", "2:1 count"},
		{"spawn g();", "2:1 stage"},
		{"emit 1; spawn main(in);", "2:9 stage"},
		{"chan s r int 0;", "2:1 range"},
		{"chan s r send send send int 1;", "2:1 type"},
		{"if 1 {\nemit 1;\n} else {\nemit 2;\n}\n emit x;", "7:2 none"},
		{"if 1 {\nemit 1;\n} else {\nemit 2;\nemit x;\n}\n emit y;", "6:1 none"},
		{"if 1 {\nemit x;\n} else {\nemit y;\n}", "3:1 none"},
		{"if x {\nemit y;\n}", "2:1 none"},
		{"take x from in {\nemit x;\n} else {\nemit x;\n}", "5:1 none"},
		{"for x from in {\nrepeat 2 {\nif x {\n} else {\n   set x = in;\n}\n}\n}", "6:4 type"},
		{"repeat 1 { } repeat 1 { emit 1; } repeat in { }", "2:35 type"},
	} {
		says(t, "stage f(a int) { emit a; } stage main(in recv int) {\n"+c.does+"\n}", "no "+c.want)
	}
	// The statements of the stages ahead count, too: each one at a time is wrong.
	src := "stage f() {\nlet a = 1;\nif a {\nemit a;\nrepeat a {\nemit a;\n}\n} else {\nemit a;\n}\nemit a;\n}\nstage g() { }\nstage main(in recv int) {\nlet a = 1;\nfor x from in {\nemit a;\n}\nemit a;\n}"
	all := lines(src)
	for n, line := range all {
		if !strings.HasSuffix(line, " a;") && !strings.HasSuffix(line, " a {") {
			continue
		}
		wrong := strings.ReplaceAll(line, " a", " zz")
		spoilt := strings.Join(all[:n], "\n") + "\n" + wrong + "\n" + strings.Join(all[n+1:], "\n")
		says(t, spoilt, fmt.Sprintf("no %d:1 none", n+1))
	}
	says(t, src, "yes 11")
}

// P20.1: of names and types at a stage: the stage's place; of none: 0.
func TestNoAtAStage(t *testing.T) {
	var vars strings.Builder
	for k := range api.MaxVars {
		fmt.Fprintf(&vars, "let x%d = 1;\n", k)
	}
	for src, want := range map[string]string{
		"stage f() { }\nstage f() { }":                                                "2:1 twice",
		"stage f() { }\nstage g() { }\n  stage f() { emit x; }\n" + drains:            "3:3 twice",
		"stage f(a int, a int) { }\n" + drains:                                        "1:1 twice",
		"#\n stage f(a int, a int) { }\n" + drains:                                    "2:2 twice",
		drains + " stage f(a int) {\nlet b = 1; }\n stage g(a int, b int, a int) { }": "3:2 twice",
		"#\n  stage main(in recv int) {\n" + vars.String() + "}":                      "2:3 many",
		drains + "\nstage f() {\n" + vars.String() + "let y = 1; } stage g() { }":     "2:1 many",
		// main is not there, or not as it has to be: at 0, whatever stands there.
		"\n\n  stage f() { }":                          "1:1 main",
		"# none\nstage main() { }":                     "1:1 main",
		"\tstage main(in send int) { close in; }":      "1:1 main",
		"stage f() { }\nstage main(in int) { }":        "1:1 main",
		"\nstage main(in recv int, a int) { }":         "1:1 main",
		"\n" + strings.ReplaceAll(drains, "main", "m"): "1:1 main",
	} {
		says(t, src, "no "+want)
	}
}

// P20.1: a text that may be read, but not as it would be printed: too long, at -1.
func TestNoOfThePrintedText(t *testing.T) {
	line := "emit 1" + strings.Repeat("+1", 9) + ";\n"
	long := "#\n" + main(strings.Repeat(line, api.MaxStmts))
	if len(long) > api.MaxText {
		t.Fatal(len(long))
	}
	says(t, long, "no 1:1 size")
	says(t, main(strings.Repeat(line, 260)), "yes 260")
}

// P20.1: a text that text.Tell has a fault of: the word alone; one of just MaxText
// bytes is none.
func TestNoOfALongText(t *testing.T) {
	const first = api.MaxText - len(drains) - 1 // a remark, of so many bytes, and a newline
	for _, n := range []int{first - 1, first, first + 1, first + 2, api.MaxText - 1} {
		want := "yes 1"
		if n > first {
			want = "no size"
		}
		says(t, "#"+strings.Repeat("x", n-1)+"\n"+drains, want)
		says(t, drains+"\n#"+strings.Repeat("?", n-1), want)
	}
	// What is first wrong stands ahead of its being too long: that is told all the same.
	says(t, "?\n"+strings.Repeat("x", api.MaxText-1), "no size")
	says(t, "?\n"+strings.Repeat("x", api.MaxText-2), "no 1:1 text")
	// Newlines count.
	says(t, strings.Repeat("\n", api.MaxText-len(drains))+drains, "yes 1")
	says(t, strings.Repeat("\n", api.MaxText-len(drains)+1)+drains, "no size")
	says(t, drains+strings.Repeat("\n", api.MaxText-len(drains)), "yes 1")
	says(t, drains+strings.Repeat("\n", api.MaxText-len(drains)+1), "no size")
}

// P20.1: what is too long stays so, till all is new, whatever is written behind it.
func TestLongStays(t *testing.T) {
	d := New()
	tells(t, d, "yes 1\n", "|"+drains, "check")
	for range 5 {
		tells(t, d, "no size\n", "|"+strings.Repeat(" ", api.MaxText-1), "check")
		nothing(t, d)
		tells(t, d, "no size\nno size\n", "|", "check", "|#", "|"+drains, "check")
		nothing(t, d)
	}
	tells(t, d, "yes 1\n", "new", "|"+drains, "check")
	// Line by line up to that, and over it.
	for k := range api.MaxText - len(drains) + 1 {
		tells(t, d, "", "|")
		if k%3000 == 0 {
			tells(t, d, "yes 1\n", "check")
		}
	}
	tells(t, d, "no size\n", "check")
}
