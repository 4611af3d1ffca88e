package token

import (
	"strings"
	"testing"

	"pipewright/api"
)

const wordTexts = "abandon chan clone close drain else emit for from if int let recv repeat send set spawn stage take"

// P2.2
func TestWord(t *testing.T) {
	list := strings.Fields(wordTexts)
	if len(list) != 19 {
		t.Fatalf("%d words, want 19", len(list))
	}
	for _, w := range list {
		if !Word(w) {
			t.Errorf("Word(%q): false, want true", w)
		}
		for _, s := range []string{w + "s", w + "0", "0" + w, "x" + w, w + " ", " " + w, w + "\x00", w[1:], strings.ToUpper(w), w + w} {
			if Word(s) {
				t.Errorf("Word(%q): true, want false", s)
			}
		}
	}
	for _, s := range []string{"", " ", "a", "main", "in", "out", "0", "==", "le", "forif", "if for", "\xff", strings.Repeat("let", api.MaxText)} {
		if Word(s) {
			t.Errorf("Word(%q): true, want false", short(s))
		}
	}
}

// P2.2: among all texts of three letters these alone are words.
func TestWordsOfThreeLetters(t *testing.T) {
	var letters []string
	for b := byte('a'); b <= 'z'; b++ {
		letters = append(letters, string([]byte{b}))
	}
	var found []string
	for _, s := range textsOf(letters, 3) {
		if Word(s) {
			found = append(found, s)
		}
	}
	if got := strings.Join(found, " "); got != "if for int let set" {
		t.Errorf("the words of at most three letters: %s", got)
	}
}

// P2.3
func TestName(t *testing.T) {
	limit := strings.Repeat("n", api.MaxName)
	for _, s := range []string{"a", "z", "a0", "z9", "lets", "let1", "main", "in", "fo", "aif", limit, "a" + strings.Repeat("0", api.MaxName-1)} {
		if !Name(s) {
			t.Errorf("Name(%q): false, want true", s)
		}
	}
	for _, s := range []string{
		"", "0", "1a", "9", "A", "aB", "Ab", "a b", " a", "a ", "a\n", "a#", "a_", "_a", "a-b", "=", "a=", "\x00", "a\x00", "\xff", "a\xff", "\u00e9", "a\u00e9",
		"`", "{", "a`", "a{", "a/", "a:", limit + "n", limit + "0", strings.Repeat("a", api.MaxText+1),
	} {
		if Name(s) {
			t.Errorf("Name(%q): true, want false", short(s))
		}
	}
	for _, w := range strings.Fields(wordTexts) {
		if Name(w) || !Name(w+"s") || !Name(w+"1") || Name("1"+w) {
			t.Errorf("%q and what is near it: %v %v %v %v, want false true true false", w, Name(w), Name(w+"s"), Name(w+"1"), Name("1"+w))
		}
	}
}

// P2.1, P2.3: a text is a name if Scan answers it as one name, and the other way round.
func TestNameIsWhatScanCallsAName(t *testing.T) {
	for _, s := range someTexts() {
		tokens, f := Scan(s)
		want := f.Code == 0 && len(tokens) == 1 && tokens[0].Kind == api.TokName && tokens[0].Text == s
		if got := Name(s); got != want {
			t.Fatalf("Name(%q): %v, want %v", s, got, want)
		}
	}
}
