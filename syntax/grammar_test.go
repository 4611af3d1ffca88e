package syntax

import (
	"regexp"
	"strings"
	"testing"

	"pipewright/api"
	"pipewright/token"
)

// chapter is the grammar as it stands in doc/03-syntax.md.
const chapter = `
program = stage { stage }
stage   = "stage" NAME "(" [ NAME type { "," NAME type } ] ")" block
type    = { "send" | "recv" } "int"
block   = "{" { stmt } "}"
stmt    = "let" NAME "=" expr ";" | "set" NAME "=" expr ";" | "emit" expr ";"
        | "chan" NAME NAME type NUMBER ";" | "clone" NAME NAME ";" | "send" NAME expr ";"
        | "close" NAME ";" | "abandon" NAME ";" | "drain" NAME ";"
        | "spawn" NAME "(" [ expr { "," expr } ] ")" ";"
        | "take" NAME "from" NAME block [ "else" block ] | "for" NAME "from" NAME block
        | "repeat" expr block | "if" expr block [ "else" block ]
expr    = sum [ "<" sum | "==" sum ]
sum     = product { ( "+" | "-" ) product }
product = unit { "*" unit }
unit    = NUMBER | NAME | "(" expr ")" | "-" unit
`

const (
	isText   = iota // a token of this text
	isKind          // a token of this kind
	isRule          // what the rule of this name says
	isList          // one behind the other
	isEither        // one of them
	isMaybe         // it, or nothing
	isMany          // it, as often as it stands there
	isOver          // nothing: an expression is over here
)

type node struct {
	is   int
	text string
	kind int
	kids []*node
}

// rules reads the chapter's grammar.
func rules() map[string]*node {
	words := regexp.MustCompile(`"[^"]*"|[A-Za-z]+|\S`).FindAllString(chapter, -1)
	made := map[string]*node{}
	for i := 0; i < len(words); {
		name := words[i]
		end := i + 2
		for end < len(words) && (end+1 == len(words) || words[end+1] != "=") {
			end++
		}
		body := words[i+2 : end]
		made[name] = either(&body)
		i = end
	}
	return made
}

func either(words *[]string) *node {
	n := &node{is: isEither, kids: []*node{list(words)}}
	for len(*words) > 0 && (*words)[0] == "|" {
		*words = (*words)[1:]
		n.kids = append(n.kids, list(words))
	}
	return n
}

func list(words *[]string) *node {
	n := &node{is: isList}
	for len(*words) > 0 {
		w := (*words)[0]
		if strings.Contains("|)]}", w) {
			break
		}
		*words = (*words)[1:]
		n.kids = append(n.kids, thing(w, words))
	}
	return n
}

func thing(w string, words *[]string) *node {
	inside := func() []*node {
		n := either(words)
		*words = (*words)[1:]
		return []*node{n}
	}
	switch {
	case w[0] == '"':
		return &node{is: isText, text: w[1 : len(w)-1]}
	case w == "NAME":
		return &node{is: isKind, kind: api.TokName}
	case w == "NUMBER":
		return &node{is: isKind, kind: api.TokNumber}
	case w == "(":
		return inside()[0]
	case w == "[":
		return &node{is: isMaybe, kids: inside()}
	case w == "{":
		return &node{is: isMany, kids: inside()}
	}
	return &node{is: isRule, text: w}
}

// want is what must come next, and what must come behind that.
type want struct {
	node   *node
	behind *want
}

var grammar = rules()

// walk goes from token to token: which expressions begin and are over ahead of
// the token that it is at.
type walk struct {
	begun  int
	ended  int
	behind *want
}

// goes looks for a way past the token; as one token tells which way, the first
// one is the only one.
func (w *walk) goes(at *want, tok api.Token, begun, ended int) bool {
	if at == nil {
		return false
	}
	n, behind := at.node, at.behind
	switch n.is {
	case isText, isKind:
		fits := tok.Text == n.text
		if n.is == isKind {
			fits = tok.Kind == n.kind
		}
		if fits {
			w.behind, w.begun, w.ended = behind, begun, ended
		}
		return fits
	case isOver:
		return w.goes(behind, tok, begun, ended+1)
	case isRule:
		if n.text == "expr" {
			behind = &want{&node{is: isOver}, behind}
			begun++
		}
		return w.goes(&want{grammar[n.text], behind}, tok, begun, ended)
	case isList:
		for i := len(n.kids) - 1; i >= 0; i-- {
			behind = &want{n.kids[i], behind}
		}
		return w.goes(behind, tok, begun, ended)
	case isMaybe:
		return w.goes(&want{n.kids[0], behind}, tok, begun, ended) || w.goes(behind, tok, begun, ended)
	case isMany:
		return w.goes(&want{n.kids[0], at}, tok, begun, ended) || w.goes(behind, tok, begun, ended)
	}
	for _, kid := range n.kids {
		if w.goes(&want{kid, behind}, tok, begun, ended) {
			return true
		}
	}
	return false
}

// rests is where no token goes on: how many expressions are over then, and
// whether all is.
func rests(at *want) (ended int, all bool) {
	for at != nil && (at.node.is == isOver || at.node.is == isMaybe || at.node.is == isMany) {
		if at.node.is == isOver {
			ended++
		}
		at = at.behind
	}
	return ended, at == nil
}

// counts is what the limits are asked of, token by token.
type counts struct {
	tokens  []api.Token
	stages  int
	stmts   int
	blocks  int
	commas  int
	ends    int
	open    []string
	begun   []int
	stmtsAt map[int]bool
}

func one(texts, text string) bool {
	return text != "" && strings.Contains(" "+texts+" ", " "+text+" ")
}

func (c *counts) ahead(i, by int) api.Token {
	if i < by {
		return api.Token{}
	}
	return c.tokens[i-by]
}

// over is told of each expression that is over ahead of the token i.
func (c *counts) over(i int) (bad api.Fault) {
	begin := c.begun[len(c.begun)-1]
	c.begun = c.begun[:len(c.begun)-1]
	parts := 0
	for _, tok := range c.tokens[begin:i] {
		if !one("( )", tok.Text) {
			parts++
		}
	}
	if parts > api.MaxTerms {
		bad = fault(api.ErrMany, c.tokens[begin].At)
	}
	return bad
}

// tooMuch is told of a token that could stand: is there too much?
func (c *counts) tooMuch(i int, begins bool) (code int) {
	tok, last := c.tokens[i], c.ahead(i, 1)
	operand := last.Kind == api.TokName || last.Kind == api.TokNumber || last.Text == ")"
	listed := last.Kind == api.TokName && one("stage spawn", c.ahead(i, 2).Text)
	above := func(n *int, most, told int) {
		if *n == most {
			code = told
		}
		*n++
	}
	switch {
	case tok.Text == "stage":
		c.commas = 0
		above(&c.stages, api.MaxStages, api.ErrMany)
	case tok.Kind == api.TokWord && tok.Text != "else" && one("{ } ;", last.Text):
		c.commas = 0
		c.stmtsAt[tok.At] = true
		above(&c.stmts, api.MaxStmts, api.ErrMany)
	case one("send recv", tok.Text):
		if !one("send recv", last.Text) {
			c.ends = 0
		}
		above(&c.ends, api.MaxEnds, api.ErrDeep)
	case tok.Text == "{":
		above(&c.blocks, api.MaxDepth, api.ErrDeep)
	case tok.Text == "}":
		c.blocks--
	case tok.Text == ",":
		c.commas++
	case tok.Text == "(" && !listed, tok.Text == "-" && (begins || !operand):
		if len(c.open) == api.MaxOpen {
			code = api.ErrDeep
		}
		c.open = append(c.open, tok.Text)
	case tok.Text == ")" && len(c.open) > 0:
		c.open = c.open[:len(c.open)-1]
		c.unitOver()
	case tok.Kind == api.TokName || tok.Kind == api.TokNumber:
		c.unitOver()
	}
	return code
}

func (c *counts) unitOver() {
	for len(c.open) > 0 && c.open[len(c.open)-1] == "-" {
		c.open = c.open[:len(c.open)-1]
	}
}

// slowFault is the chapter's point 1 once more, of faults alone: the grammar
// gone through as it stands, and the limits counted beside it. It tells, too,
// where statements and stages begin.
func slowFault(src string) (api.Fault, map[int]bool) {
	tokens, bad := token.Scan(src)
	if bad.Code != 0 {
		return bad, nil
	}
	w := &walk{behind: &want{&node{is: isRule, text: "program"}, nil}}
	c := &counts{tokens: tokens, stmtsAt: map[int]bool{}}
	for i := range len(tokens) + 1 {
		tok, at, code := api.Token{}, len(src), api.ErrShort
		if i < len(tokens) {
			tok, at, code = tokens[i], tokens[i].At, api.ErrForm
		}
		before := w.behind
		stands := i < len(tokens) && w.goes(before, tok, 0, 0)
		all := false
		if !stands {
			w.begun = 0
			w.ended, all = rests(before)
		}
		for range w.ended {
			if bad := c.over(i); bad.Code != 0 {
				return bad, nil
			}
		}
		if c.commas == api.MaxParams && c.ahead(i, 1).Text == "," {
			return fault(api.ErrMany, at), nil
		}
		if !stands && all && i == len(tokens) {
			break
		}
		if !stands {
			return fault(code, at), nil
		}
		for range w.begun {
			c.begun = append(c.begun, i)
		}
		if code := c.tooMuch(i, w.begun > 0); code != 0 {
			return fault(code, at), nil
		}
	}
	return api.Fault{}, c.stmtsAt
}

// The second reader has to know the chapter's examples, too.
func TestSlowFault(t *testing.T) {
	for src, want := range map[string]api.Fault{
		"stage main(in recv int) { drain in; }":  {},
		"stage a() { emit 1 - 2 - 3; }":          {},
		"stage a( { }":                           fault(api.ErrForm, 9),
		"stage a(":                               fault(api.ErrShort, 8),
		"":                                       fault(api.ErrShort, 0),
		"stage a() { emit 1 < 2 < 3; }":          fault(api.ErrForm, 23),
		"stage a(b send send send send int) { }": fault(api.ErrDeep, 25),
		"stage a() { emit " + strings.Repeat("-", 61) + "1; }":       fault(api.ErrDeep, 77),
		"stage a() { emit 1" + strings.Repeat("+1", 20) + "; }":      fault(api.ErrMany, 17),
		"stage a() { send a -1; } stage b() { } stage":               fault(api.ErrShort, 44),
		"stage a() { spawn f(1, 2, 3, 4, 5, 6, ":                     fault(api.ErrMany, 38),
		"stage a() { if 1 { } else { } if 1 { emit 2; } else emit":   fault(api.ErrForm, 52),
		"stage a() { take x from y { } for x from y { } else { } } ": fault(api.ErrForm, 47),
	} {
		if got, _ := slowFault(src); got != want {
			t.Errorf("slowFault(%q): %v, want %v", src, got, want)
		}
	}
}
