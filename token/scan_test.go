package token

import (
	"regexp"
	"slices"
	"strconv"
	"strings"
	"testing"
	"unsafe"

	"pipewright/api"
)

const signTexts = "( ) { } , ; + - * < = =="

func fault(code, at int) api.Fault { return api.Fault{Code: code, At: at} }

func word(at int, s string) api.Token { return api.Token{Kind: api.TokWord, At: at, Text: s} }
func name(at int, s string) api.Token { return api.Token{Kind: api.TokName, At: at, Text: s} }
func sign(at int, s string) api.Token { return api.Token{Kind: api.TokSign, At: at, Text: s} }
func number(at int, s string, n int64) api.Token {
	return api.Token{Kind: api.TokNumber, At: at, Text: s, N: n}
}

func short(src string) string {
	if len(src) > 60 {
		return src[:60] + ".."
	}
	return src
}

func wantTokens(t *testing.T, src string, want ...api.Token) {
	t.Helper()
	got, f := Scan(src)
	if !slices.Equal(got, want) || f != fault(0, 0) {
		t.Errorf("Scan(%q): %v %v, want %v and no fault", short(src), got, f, want)
	}
}

// wantFault asks for no tokens, too: with a fault all else is zero.
func wantFault(t *testing.T, src string, want api.Fault) {
	t.Helper()
	got, f := Scan(src)
	if len(got) != 0 || f != want {
		t.Errorf("Scan(%q): %d tokens %v, want none and %v", short(src), len(got), f, want)
	}
}

// P2.1
func TestScanExamples(t *testing.T) {
	wantTokens(t, "let x1=10#a\n;", word(0, "let"), name(4, "x1"), sign(6, "="), number(7, "10", 10), sign(12, ";"))
	wantFault(t, "012", fault(api.ErrNumber, 0))
	wantTokens(t, "a===b", name(0, "a"), sign(1, "=="), sign(3, "="), name(4, "b"))
	wantFault(t, "5x", fault(api.ErrNumber, 0))
}

// P2.1
func TestScanOfBlanksAndRemarks(t *testing.T) {
	for _, src := range []string{
		"", " ", "\t", "\n", "\r", " \t\n\r \r\n", "#", "##", "#\n", "# a b 012 @ A\x00\xff", "# a\n# b", "\n#\r#\n\t#",
		strings.Repeat("#\n", api.MaxText/2), "#" + strings.Repeat("x", api.MaxText-1),
	} {
		wantTokens(t, src)
	}
	wantTokens(t, "#a\rb\nc", name(5, "c"))
	wantTokens(t, "a#b", name(0, "a"))
	wantTokens(t, "1#2\n3", number(0, "1", 1), number(4, "3", 3))
	wantTokens(t, "=#\n=", sign(0, "="), sign(3, "="))
	wantTokens(t, "a #b#c\n#d\n e", name(0, "a"), name(11, "e"))
	wantTokens(t, "a\tb\nc\rd e", name(0, "a"), name(2, "b"), name(4, "c"), name(6, "d"), name(8, "e"))
}

// P2.1
func TestScanGoesOnAsLongAsItCan(t *testing.T) {
	wantTokens(t, "if0", name(0, "if0"))
	wantTokens(t, "letx", name(0, "letx"))
	wantTokens(t, "let let1", word(0, "let"), name(4, "let1"))
	wantTokens(t, "a1b2", name(0, "a1b2"))
	wantTokens(t, "-5", sign(0, "-"), number(1, "5", 5))
	wantTokens(t, "a(1)", name(0, "a"), sign(1, "("), number(2, "1", 1), sign(3, ")"))
	wantTokens(t, "1=x", number(0, "1", 1), sign(1, "="), name(2, "x"))
}

// P2.1
func TestScanOfEqualSigns(t *testing.T) {
	wantTokens(t, "=", sign(0, "="))
	wantTokens(t, "==", sign(0, "=="))
	wantTokens(t, "===", sign(0, "=="), sign(2, "="))
	wantTokens(t, "====", sign(0, "=="), sign(2, "=="))
	wantTokens(t, "= =", sign(0, "="), sign(2, "="))
	wantTokens(t, "<==", sign(0, "<"), sign(1, "=="))
}

// P2.1
func TestScanOfEachSign(t *testing.T) {
	for _, s := range strings.Fields(signTexts) {
		wantTokens(t, s, sign(0, s))
		wantTokens(t, "a"+s+"0", name(0, "a"), sign(1, s), number(1+len(s), "0", 0))
	}
	wantTokens(t, "(){},;+-*<=", sign(0, "("), sign(1, ")"), sign(2, "{"), sign(3, "}"), sign(4, ","), sign(5, ";"),
		sign(6, "+"), sign(7, "-"), sign(8, "*"), sign(9, "<"), sign(10, "="))
}

// P2.1
func TestScanOfNumbers(t *testing.T) {
	wantTokens(t, "0", number(0, "0", 0))
	wantTokens(t, "9", number(0, "9", 9))
	wantTokens(t, "10", number(0, "10", 10))
	wantTokens(t, "100", number(0, "100", 100))
	wantTokens(t, "123456789012345678", number(0, "123456789012345678", 123456789012345678))
	wantTokens(t, "999999999999999999", number(0, "999999999999999999", 999999999999999999))
	for _, src := range []string{
		"00", "012", "01", "000", "0a", "0x1", "1a", "5x", "1a1", "1let", "9223372036854775807",
		"1234567890123456789", "1000000000000000000", "00000000000000000001", "0000000000000000001",
		"12345678901234567x", "123456789012345678x", strings.Repeat("9", api.MaxText),
	} {
		wantFault(t, src, fault(api.ErrNumber, 0))
		if len(src) < api.MaxText {
			wantFault(t, "\n"+src, fault(api.ErrNumber, 1))
			wantFault(t, "-"+src, fault(api.ErrNumber, 1))
		}
	}
}

// P2.1
func TestScanOfNames(t *testing.T) {
	limit := strings.Repeat("z", api.MaxName)
	digits := "a" + strings.Repeat("9", api.MaxName-1)
	wantTokens(t, limit, name(0, limit))
	wantTokens(t, digits, name(0, digits))
	wantTokens(t, limit+" "+limit, name(0, limit), name(api.MaxName+1, limit))
	for _, src := range []string{limit + "z", limit + "0", digits + "9", "abandonabandon", strings.Repeat("a", api.MaxText)} {
		wantFault(t, src, fault(api.ErrName, 0))
	}
	wantFault(t, "a "+limit+"z", fault(api.ErrName, 2))
}

// P2.1
func TestScanOfEachWord(t *testing.T) {
	for _, w := range strings.Fields(wordTexts) {
		wantTokens(t, w, word(0, w))
		wantTokens(t, w+"s", name(0, w+"s"))
		wantTokens(t, w+"0", name(0, w+"0"))
		wantTokens(t, " "+w+"="+w, word(1, w), sign(1+len(w), "="), word(2+len(w), w))
		wantFault(t, "0"+w, fault(api.ErrNumber, 0))
	}
}

// P2.1
func TestScanOfEachByte(t *testing.T) {
	const good = " \t\n\r#abcdefghijklmnopqrstuvwxyz0123456789(){},;+-*<="
	for b := range 256 {
		src := string([]byte{byte(b)})
		if strings.Contains(good, src) {
			if _, f := Scan(src); f != fault(0, 0) {
				t.Errorf("the byte %d: %v, want no fault", b, f)
			}
			continue
		}
		wantFault(t, src, fault(api.ErrText, 0))
		wantFault(t, "ab "+src+" cd", fault(api.ErrText, 3))
		wantFault(t, "a"+src, fault(api.ErrText, 1))
		wantFault(t, "1"+src, fault(api.ErrText, 1))
		wantTokens(t, "#"+src)
	}
	wantFault(t, "aBc", fault(api.ErrText, 1))
	wantFault(t, "5X", fault(api.ErrText, 1))
	wantFault(t, "a\u00e9", fault(api.ErrText, 1))
	wantFault(t, "a\u00a0b", fault(api.ErrText, 1))
}

// P2.1
func TestScanTellsTheFirstFault(t *testing.T) {
	long := strings.Repeat("n", api.MaxName+1)
	wantFault(t, "01 @ "+long, fault(api.ErrNumber, 0))
	wantFault(t, "@ 01 "+long, fault(api.ErrText, 0))
	wantFault(t, long+" 01 @", fault(api.ErrName, 0))
	wantFault(t, "a; @ @", fault(api.ErrText, 3))
	wantFault(t, "a 0a 0b", fault(api.ErrNumber, 2))
	wantFault(t, "#@\n"+long+"@", fault(api.ErrName, 3))
	wantFault(t, "1A2b", fault(api.ErrText, 1))
}

// P2.1
func TestScanAtTheLimit(t *testing.T) {
	wantTokens(t, strings.Repeat(" ", api.MaxText-1)+"a", name(api.MaxText-1, "a"))
	wantTokens(t, strings.Repeat(" ", api.MaxText-2)+"==", sign(api.MaxText-2, "=="))
	got, f := Scan(strings.Repeat("(", api.MaxText))
	if len(got) != api.MaxText || f != fault(0, 0) {
		t.Errorf("MaxText signs: %d tokens %v", len(got), f)
	}
	for at, tok := range got {
		if tok != sign(at, "(") {
			t.Fatalf("MaxText signs: %v at %d", tok, at)
		}
	}
	size := fault(api.ErrSize, api.MaxText)
	for _, b := range []string{" ", "(", "#", "@", "a", "0", "\x00"} {
		wantFault(t, strings.Repeat(b, api.MaxText+1), size)
	}
	wantFault(t, strings.Repeat(" ", 10*api.MaxText), size)
}

var (
	anyBlank = regexp.MustCompile(`^(?:[ \t\n\r]|#[^\n]*(?:\n|$))+`)
	anyRun   = regexp.MustCompile(`^[a-z0-9]+`)
	aNumber  = regexp.MustCompile(`^(?:0|[1-9][0-9]{0,17})$`)
	aSign    = regexp.MustCompile(`^(?:==|[(){},;+*<=-])`)
	allWords = regexp.MustCompile(`^(?:` + strings.ReplaceAll(wordTexts, " ", "|") + `)$`)
)

// slowScan is the chapter's point 1 once more, by patterns.
func slowScan(src string) ([]api.Token, api.Fault) {
	if len(src) > api.MaxText {
		return nil, fault(api.ErrSize, api.MaxText)
	}
	var out []api.Token
	for at := 0; at < len(src); {
		rest := src[at:]
		blank, run, mark := anyBlank.FindString(rest), anyRun.FindString(rest), aSign.FindString(rest)
		switch {
		case blank != "":
		case mark != "":
			out = append(out, sign(at, mark))
		case run == "":
			return nil, fault(api.ErrText, at)
		case aNumber.MatchString(run):
			n, _ := strconv.ParseInt(run, 10, 64)
			out = append(out, number(at, run, n))
		case run[0] <= '9':
			return nil, fault(api.ErrNumber, at)
		case allWords.MatchString(run):
			out = append(out, word(at, run))
		case len(run) > api.MaxName:
			return nil, fault(api.ErrName, at)
		default:
			out = append(out, name(at, run))
		}
		at += len(blank) + len(run) + len(mark)
	}
	return out, fault(0, 0)
}

// textsOf gives all texts of at most so many of the pieces.
func textsOf(pieces []string, most int) []string {
	all, last := []string{""}, []string{""}
	for range most {
		var next []string
		for _, s := range last {
			for _, p := range pieces {
				next = append(next, s+p)
			}
		}
		all, last = append(all, next...), next
	}
	return all
}

func someTexts() []string {
	texts := textsOf([]string{"a", "0", "1", "=", "#", "\n", " ", "@", "("}, 4)
	return append(texts, textsOf([]string{"let", "i", "f", "abcdef", "123456", "0", "\t", "==", "<", "#", "\n", "\xc3", "\x00", "Z"}, 3)...)
}

// P2.1
func TestScanAgainstPatterns(t *testing.T) {
	for _, src := range someTexts() {
		got, f := Scan(src)
		want, bad := slowScan(src)
		if !slices.Equal(got, want) || f != bad {
			t.Fatalf("Scan(%q): %v %v, want %v %v", src, got, f, want, bad)
		}
	}
}

// 'What follows': one behind the other, each where it says, blanks between.
func TestTokensLieOneBehindTheOther(t *testing.T) {
	for _, src := range someTexts() {
		tokens, f := Scan(src)
		if f.Code != 0 {
			continue
		}
		end := 0
		for _, tok := range append(tokens, api.Token{At: len(src)}) {
			if tok.At < end || tok.At > len(src) {
				t.Fatalf("Scan(%q): %v lies over the one ahead, or behind the end", src, tok)
			}
			if between := src[end:tok.At]; anyBlank.FindString(between) != between {
				t.Fatalf("Scan(%q): %q is between tokens", src, between)
			}
			end = tok.At + len(tok.Text)
			if src[tok.At:end] != tok.Text {
				t.Fatalf("Scan(%q): %v is not where it says", src, tok)
			}
		}
	}
}

// 'What follows': two texts with a newline between have the tokens of both.
func TestTwoTextsWithANewlineBetween(t *testing.T) {
	texts := textsOf([]string{"a", "1", "=", "#", "\n", " ", "let"}, 3)
	for _, first := range texts {
		want, f := Scan(first)
		if f.Code != 0 {
			continue
		}
		for _, second := range texts {
			more, f := Scan(second)
			if f.Code != 0 {
				continue
			}
			both := slices.Clone(want)
			for _, tok := range more {
				tok.At += len(first) + 1
				both = append(both, tok)
			}
			got, f := Scan(first + "\n" + second)
			if !slices.Equal(got, both) || f.Code != 0 {
				t.Fatalf("%q and %q: %v %v, want %v", first, second, got, f, both)
			}
		}
	}
}

func TestTokensAreNewMemory(t *testing.T) {
	src := strings.Clone("let abc = 12;")
	want := []api.Token{word(0, "let"), name(4, "abc"), sign(8, "="), number(10, "12", 12), sign(12, ";")}
	first, _ := Scan(src)
	second, _ := Scan(src)
	for i := range first {
		first[i] = api.Token{Kind: 9, Text: "x"}
	}
	_ = append(first, api.Token{Kind: 8})
	if !slices.Equal(second, want) {
		t.Errorf("the second answer: %v, want %v", second, want)
	}
	wantTokens(t, src, want...)
	begin := uintptr(unsafe.Pointer(unsafe.StringData(src)))
	for _, tok := range second {
		at := uintptr(unsafe.Pointer(unsafe.StringData(tok.Text)))
		if at >= begin && at < begin+uintptr(len(src)) {
			t.Errorf("the text of %v lies in the memory of what was scanned", tok)
		}
	}
}

// P1
func FuzzScan(f *testing.F) {
	for _, src := range []string{"", "let x1=10#a\n;", "012", "a===b", "5x", "\x00\xff"} {
		f.Add(src)
	}
	f.Fuzz(func(t *testing.T, src string) {
		got, bad := Scan(src)
		want, worse := slowScan(src)
		if !slices.Equal(got, want) || bad != worse {
			t.Errorf("Scan(%q): %v %v, want %v %v", src, got, bad, want, worse)
		}
	})
}
