package desk

import (
	"strconv"
	"strings"

	"pipewright/api"
	"pipewright/text"
)

// page is what is told, line by line.
type page struct{ strings.Builder }

func (p *page) say(words ...string) {
	p.WriteString(strings.Join(words, " "))
	p.WriteByte('\n')
}

// no tells of a fault that stands at no place of the text.
func (p *page) no(f api.Fault) { p.say("no", text.Word(f.Code)) }

func (p *page) noText(src string, f api.Fault) {
	told, bad := text.Tell(src, f)
	if bad.Code != 0 {
		p.no(f)
		return
	}
	p.say("no", told)
}

// row says a word with all the numbers behind it.
func row[N int | int64](p *page, word string, numbers []N) {
	p.WriteString(word)
	for _, n := range numbers {
		p.WriteByte(' ')
		p.WriteString(decimal(n))
	}
	p.WriteByte('\n')
}

func decimal[N int | int64](n N) string { return strconv.FormatInt(int64(n), 10) }
