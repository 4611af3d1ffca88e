package desk

import (
	"strconv"
	"strings"
)

// ask is a line of words: its form is how the tables write it ("why N"), and
// beside it stand its numbers.
type ask struct {
	form    string
	numbers []int64
}

// wordsOf parts a line at blanks alone: any other byte is one of a word.
func wordsOf(line string) []string {
	return strings.FieldsFunc(line, func(r rune) bool { return r == ' ' })
}

// asked is false, if a word behind the first one is no number.
func asked(words []string) (ask, bool) {
	var numbers []int64
	for _, word := range words[1:] {
		n, is := number(word)
		if !is {
			return ask{}, false
		}
		numbers = append(numbers, n)
	}
	return ask{form(words[0], len(numbers)), numbers}, true
}

func form(word string, numbers int) string {
	if word == "begin" {
		return "begin N .."
	}
	return word + strings.Repeat(" N", numbers)
}

// number is false of what says a number in another way than the shortest one.
func number(word string) (int64, bool) {
	n, err := strconv.ParseInt(word, 10, 64)
	return n, err == nil && decimal(n) == word
}
