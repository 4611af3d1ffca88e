package render

import (
	"math"
	"strings"
	"testing"
)

// P4.3: all texts of up to six of these bytes, against the chapter's words.
func TestTypeOfShortTexts(t *testing.T) {
	const letters = "sri x\x00"
	texts := []string{""}
	for begin, size := 0, 0; size < 6; size++ {
		end := len(texts)
		for _, text := range texts[begin:end] {
			for i := range len(letters) {
				texts = append(texts, text+letters[i:i+1])
			}
		}
		begin = end
	}
	for _, text := range texts {
		isType := strings.HasSuffix(text, "i") && strings.Count(text, "i") == 1 && strings.Count(text, "s")+strings.Count(text, "r")+1 == len(text)
		for ends := -2; ends <= 7; ends++ {
			want := isType && len(text) <= ends+1
			if got := Type(text, ends); got != want {
				t.Fatalf("Type(%q, %d): %v, want %v", text, ends, got, want)
			}
		}
	}
}

// P4.3
func TestTypeAtItsEdges(t *testing.T) {
	for _, c := range []struct {
		text string
		ends int
		want bool
	}{
		{"i", 0, true}, {"i", 1, true}, {"i", -1, false}, {"i", math.MinInt, false}, {"i", math.MaxInt, true},
		{"rsi", 2, true}, {"rsi", 1, false}, {"rsi", 3, true}, {"rsi", math.MaxInt, true}, {"rsi", math.MinInt, false},
		{"srsi", 3, true}, {"srsi", 2, false}, {"ssssi", 3, false}, {"ssssi", 4, true},
		{"", 0, false}, {"", 3, false}, {"", -1, false}, {"", math.MaxInt, false}, {"s", 3, false}, {"sr", 3, false},
		{"ii", 3, false}, {"is", 3, false}, {"sii", 3, false}, {"sisi", 3, false}, {"i ", 3, false}, {"i\n", 3, false},
		{"Si", 3, false}, {"sI", 3, false}, {"\xff\xffi", 3, false}, {"éi", 3, false}, {"sxri", 3, false}, {"send int", 9, false},
		{rep("s", 1<<20) + "i", 1 << 20, true}, {rep("s", 1<<20) + "i", 1<<20 - 1, false}, {rep("sr", 1<<20), 1 << 30, false},
		{rep("s", 1<<10) + "x" + rep("s", 1<<10) + "i", 1 << 30, false},
	} {
		if got := Type(c.text, c.ends); got != c.want {
			t.Errorf("Type(%q, %d): %v, want %v", short(c.text), c.ends, got, c.want)
		}
	}
}
