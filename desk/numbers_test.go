package desk

import (
	"math"
	"math/big"
	"strings"
	"testing"
)

// wrong are words that are no numbers.
var wrong = []string{"-0", "+0", "+1", "01", "-01", "00", "-00", "-", "+", "--1", "-+1", "1-", "0x1", "0b1", "0o7", "1e3", "1.0", "1.", ".5", "1_000", "_1", "1_", "a", "1a", "a1", "I", "ten", "NaN", "Inf", "١", "１", "1,2", "1;", "|1", "1|", "\t1", "1\t", "1\r", "0\x00", "\xff", "true",
	"9223372036854775808", "-9223372036854775809", "18446744073709551615", "18446744073709551616", "10000000000000000000", "-10000000000000000000", "99999999999999999999999999", "00000000000000000000000000001", "-00000000000000000000000000001"}

// right are numbers.
var right = []string{"0", "1", "-1", "9", "10", "-10", "99", "100000", "-100000", "2147483647", "2147483648", "-2147483648", "4294967296", "1000000000000000000", greatest, least, "9223372036854775806", "-9223372036854775807"}

// P20.1: words behind the first one are just those numbers; what comes in is told
// as it was said.
func TestNumbers(t *testing.T) {
	d := has(t, main("for x from in { emit x; } drain in;"))
	tells(t, d, "begun\nran 58\nout "+strings.Join(right, " ")+"\n", "begin "+strings.Join(right, " "), "run 100", "out")
	for _, n := range right {
		tells(t, d, "begun\nran 7\nout "+n+"\n", "begin "+n, "run 100", "out")
	}
	for _, n := range wrong {
		tells(t, d, "what\n", "begin "+n)
		tells(t, d, "what\n", "begin 1 "+n)
		tells(t, d, "what\n", "begin "+n+" 1")
		tells(t, d, "what\n", "begin 1 2 3 4 5 6 7 8 9 "+n+" 11")
	}
	tells(t, d, "out "+right[len(right)-1]+"\n", "out") // what was run stays
}

// P20.1: so in each line, whatever stands in the other words.
func TestWrongNumbersEverywhere(t *testing.T) {
	d := begun(t, main("chan s r int 1; close s; close s; drain in;"), 5)
	before := view(t, d)
	for _, n := range wrong {
		for _, word := range strings.Fields("new check judge why bound print begin step run tasks chans events out x what |x|") {
			if !strings.HasPrefix(word, "|") {
				tells(t, d, "what\nwhat\nwhat\n", word+" "+n, word+" 0 "+n, word+" "+n+" 0")
			}
		}
	}
	if after := view(t, d); after != before {
		t.Errorf("%s became %s", before, after)
	}
}

// P20.1: of words of these bytes, up to four of them, just those are numbers that
// a number is said as.
func TestSmallNumbers(t *testing.T) {
	d := has(t, main("emit 1; drain in;"))
	is := map[string]bool{}
	for n := -999; n <= 9999; n++ {
		is[big.NewInt(int64(n)).String()] = true
	}
	const bytes = "-+019_ax."
	var try func(word string)
	try = func(word string) {
		if len(word) > 0 {
			want := "what\n"
			if is[word] {
				want = "begun\n"
			}
			tells(t, d, want, "begin "+word)
		}
		for _, b := range bytes {
			if len(word) < 4 {
				try(word + string(b))
			}
		}
	}
	try("")
}

// P20.1: near the ends of the 64 bits.
func TestNearTheEnds(t *testing.T) {
	d := has(t, main("for x from in { emit x; } drain in;"))
	for _, end := range []int64{math.MinInt64, math.MaxInt64} {
		for off := int64(-30); off <= 30; off++ {
			n := new(big.Int).Add(big.NewInt(end), big.NewInt(off))
			want := "what\n"
			if n.IsInt64() {
				want = told("begun", "ran 7", "out "+n.String())
				tells(t, d, want, "begin "+n.String(), "run 9", "out")
				continue
			}
			tells(t, d, want, "begin "+n.String())
		}
	}
}
