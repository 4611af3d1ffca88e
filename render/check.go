package render

import (
	"strings"

	"pipewright/api"
	"pipewright/token"
)

// maxNumber is the greatest one that a text can say: eighteen digits.
const maxNumber = 999_999_999_999_999_999

// checker counts the statements, as their numbers go through the whole program.
type checker struct{ stmts int }

func (c *checker) program(p api.Program) api.Fault {
	switch {
	case len(p.Stages) == 0:
		return api.Fault{Code: api.ErrNone, At: -1}
	case len(p.Stages) > api.MaxStages:
		return api.Fault{Code: api.ErrMany, At: -1}
	}
	for i, s := range p.Stages {
		if code := headCode(s); code != 0 {
			return api.Fault{Code: code, At: -2 - i}
		}
		if f := c.block(s.Body, 1); f.Code != 0 {
			return f
		}
	}
	return api.Fault{}
}

// block goes into what is handed in only as deep as stmtCode lets it.
func (c *checker) block(body []api.Stmt, within int) api.Fault {
	for _, s := range body {
		number := c.stmts
		c.stmts++
		if number == api.MaxStmts {
			return api.Fault{Code: api.ErrMany, At: number}
		}
		if code := stmtCode(s, within); code != 0 {
			return api.Fault{Code: code, At: number}
		}
		for _, inner := range [...][]api.Stmt{s.Body, s.Else} {
			if f := c.block(inner, within+1); f.Code != 0 {
				return f
			}
		}
	}
	return api.Fault{}
}

func headCode(s api.Stage) int {
	if !token.Name(s.Name) {
		return api.ErrName
	}
	if len(s.Params) > api.MaxParams {
		return api.ErrMany
	}
	for _, param := range s.Params {
		if !token.Name(param.Name) {
			return api.ErrName
		}
		if !Type(param.T, api.MaxEnds) {
			return api.ErrType
		}
	}
	return 0
}

func stmtCode(s api.Stmt, within int) int {
	switch {
	case !isFormed(s):
		return api.ErrForm
	case len(s.E) > api.MaxParams:
		return api.ErrMany
	case hasField(s.Do, "A") && !token.Name(s.A), hasField(s.Do, "B") && !token.Name(s.B):
		return api.ErrName
	case hasField(s.Do, "T") && !Type(s.T, api.MaxEnds):
		return api.ErrType
	case s.N < 0 || s.N > maxNumber:
		return api.ErrRange
	}
	for _, x := range s.E {
		if code := exprCode(x); code != 0 {
			return code
		}
	}
	if hasField(s.Do, "S") && within >= api.MaxDepth {
		return api.ErrDeep
	}
	return 0
}

func isFormed(s api.Stmt) bool {
	if !isKind(s.Do) {
		return false
	}
	for _, field := range [...]struct {
		letter string
		filled bool
	}{
		{"A", s.A != ""}, {"B", s.B != ""}, {"T", s.T != ""}, {"N", s.N != 0},
		{"S", len(s.Body) > 0}, {"O", len(s.Else) > 0},
	} {
		if field.filled && !hasField(s.Do, field.letter) {
			return false
		}
	}
	return s.Do == api.DoSpawn || len(s.E) == strings.Count(forms[s.Do], "E")
}

func exprCode(x api.Expr) int {
	if countParts(x, api.MaxTerms) > api.MaxTerms {
		return api.ErrMany
	}
	return partCode(x)
}

// countParts stops counting, and going deeper, once there are more than most:
// what is handed in may be of any size.
func countParts(x api.Expr, most int) int {
	n := 1
	for _, part := range x.L {
		if n > most {
			break
		}
		n += countParts(part, most-n)
	}
	return n
}

func partCode(x api.Expr) int {
	switch {
	case !isOperation(x.Op), len(x.L) != operations[x.Op].parts,
		x.Name != "" && x.Op != api.OpName, x.N != 0 && x.Op != api.OpNum:
		return api.ErrForm
	case x.Op == api.OpName && !token.Name(x.Name):
		return api.ErrName
	case x.N < 0 || x.N > maxNumber:
		return api.ErrNumber
	}
	for _, part := range x.L {
		if code := partCode(part); code != 0 {
			return code
		}
	}
	return 0
}
