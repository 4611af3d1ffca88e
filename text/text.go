// Package text: see doc/01-text.md.
package text

import (
	"cmp"
	"slices"
	"sort"
	"strconv"
	"strings"

	"pipewright/api"
)

const newline = '\n'

// words has an empty text ahead, so that a code is the number of its word.
var words = [...]string{
	"", "size", "text", "number", "name", "form", "short", "deep", "many",
	"twice", "none", "type", "stage", "main", "range", "count", "code", "round",
}

func Lines(src string) []int {
	if len(src) > api.MaxText {
		return nil
	}
	begins := []int{0}
	for at := range len(src) {
		if src[at] == newline {
			begins = append(begins, at+1)
		}
	}
	return begins
}

func Place(src string, at int) (line, col int, f api.Fault) {
	return placeAmong(Lines(src), len(src), at)
}

// placeAmong is handed the beginnings of the lines, so that many places of one
// text cost one look through it.
func placeAmong(begins []int, size, at int) (line, col int, f api.Fault) {
	if size > api.MaxText {
		return 0, 0, unplaced(api.ErrSize)
	}
	if at < 0 || at > size {
		return 0, 0, unplaced(api.ErrRange)
	}
	line = sort.Search(len(begins), func(i int) bool { return begins[i] > at })
	return line, at - begins[line-1] + 1, api.Fault{}
}

func unplaced(code int) api.Fault {
	return api.Fault{Code: code, At: -1}
}

func Order(l []api.Fault) []api.Fault {
	var coded []api.Fault
	for _, f := range l {
		if f.Code != 0 {
			coded = append(coded, f)
		}
	}
	// Compared, not subtracted: a difference of far numbers would wrap round.
	slices.SortFunc(coded, func(a, b api.Fault) int {
		if a.At != b.At {
			return cmp.Compare(a.At, b.At)
		}
		return cmp.Compare(a.Code, b.Code)
	})
	return slices.Compact(coded)
}

func Word(code int) string {
	if code < 0 || code >= len(words) {
		return ""
	}
	return words[code]
}

func Tell(src string, f api.Fault) (string, api.Fault) {
	return tellAmong(Lines(src), len(src), f)
}

func tellAmong(begins []int, size int, f api.Fault) (string, api.Fault) {
	line, col, bad := placeAmong(begins, size, f.At)
	if bad.Code != 0 {
		return "", bad
	}
	word := Word(f.Code)
	if word == "" {
		return "", unplaced(api.ErrCode)
	}
	return strconv.Itoa(line) + ":" + strconv.Itoa(col) + " " + word, api.Fault{}
}

func All(src string, l []api.Fault) (string, api.Fault) {
	begins := Lines(src)
	var page strings.Builder
	for _, f := range Order(l) {
		told, bad := tellAmong(begins, len(src), f)
		if bad.Code != 0 {
			return "", bad
		}
		page.WriteString(told)
		page.WriteByte(newline)
	}
	return page.String(), api.Fault{}
}
