package syntax

import "pipewright/api"

// reader goes through the tokens from the front, a method for each rule of the
// grammar. What it cannot read it gives up on by a panic, so that no rule has
// to hand a fault on.
type reader struct {
	tokens []api.Token
	next   int // the number of the token that is read next
	end    int // the text's length: the place of what is missing
	stmts  int // statements that have begun
	depth  int // blocks that are open
	open   int // brackets and minus signs of expressions that are open
	parts  int // parts of expressions that were made
}

type giveUp struct{ fault api.Fault }

func (r *reader) read() (out api.Program, f api.Fault) {
	defer func() {
		if given, ok := recover().(giveUp); ok {
			out, f = api.Program{}, given.fault
		}
	}()
	return r.program(), api.Fault{}
}

func (r *reader) over() bool {
	return r.next == len(r.tokens)
}

func (r *reader) at() int {
	if r.over() {
		return r.end
	}
	return r.tokens[r.next].At
}

// unfit is for the token that cannot stand where it stands, or is missing.
func (r *reader) unfit() giveUp {
	if r.over() {
		return r.fault(api.ErrShort)
	}
	return r.fault(api.ErrForm)
}

func (r *reader) fault(code int) giveUp {
	return giveUp{api.Fault{Code: code, At: r.at()}}
}

// text is empty where the tokens are over, which no token's text is.
func (r *reader) text() string {
	if r.over() {
		return ""
	}
	return r.tokens[r.next].Text
}

// sees asks for the text alone: a name is never a word's text.
func (r *reader) sees(text string) bool {
	return r.text() == text
}

func (r *reader) skip(text string) {
	if !r.sees(text) {
		panic(r.unfit())
	}
	r.next++
}

func (r *reader) name() string {
	return r.tokenOf(api.TokName).Text
}

func (r *reader) number() int64 {
	return r.tokenOf(api.TokNumber).N
}

func (r *reader) tokenOf(kind int) api.Token {
	if !r.seesKind(kind) {
		panic(r.unfit())
	}
	r.next++
	return r.tokens[r.next-1]
}

func (r *reader) seesKind(kind int) bool {
	return !r.over() && r.tokens[r.next].Kind == kind
}
