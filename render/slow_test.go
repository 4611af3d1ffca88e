package render

import (
	"fmt"
	"iter"
	"os"
	"regexp"
	"strconv"
	"strings"
	"testing"

	"pipewright/api"
	"pipewright/syntax"
)

// fieldsOf has, by the number of a kind, the fields that package api says
// beside it, in its own words.
var fieldsOf = func() map[int]string {
	src, err := os.ReadFile("../api/api.go")
	if err != nil {
		panic(err)
	}
	fields := map[int]string{}
	for _, m := range regexp.MustCompile(`Do\w+ += (\d+) +// (.*)`).FindAllStringSubmatch(string(src), -1) {
		do, _ := strconv.Atoi(m[1])
		fields[do] = strings.Join(regexp.MustCompile(`\b(A|B|T|N|E|Body|Else)\b`).FindAllString(m[2], -1), " ")
	}
	return fields
}()

func TestFieldsOf(t *testing.T) {
	if len(fieldsOf) != 14 || fieldsOf[api.DoChan] != "A B T N" || fieldsOf[api.DoIf] != "E Body Else" || fieldsOf[api.DoSpawn] != "A E" {
		t.Errorf("the fields: %v", fieldsOf)
	}
}

func hasWord(words, word string) bool { return strings.Contains(" "+words+" ", " "+word+" ") }

var (
	nameLike = regexp.MustCompile(`\A[a-z][a-z0-9]{0,11}\z`)
	typeLike = regexp.MustCompile(`\A[sr]{0,3}i\z`)
)

const allWords = "abandon chan clone close drain else emit for from if int let recv repeat send set spawn stage take"

func slowName(s string) bool { return nameLike.MatchString(s) && !hasWord(allWords, s) }

// slowFaults tells all that is wrong with a program, in the chapter's order:
// the first of them is what Check has to tell.
func slowFaults(p api.Program) iter.Seq[api.Fault] {
	return func(yield func(api.Fault) bool) {
		stopped := false
		tell := func(wrong bool, code, at int) {
			stopped = stopped || wrong && !yield(fault(code, at))
		}
		tell(len(p.Stages) == 0, api.ErrNone, -1)
		tell(len(p.Stages) > 10, api.ErrMany, -1)
		number := 0
		for i, s := range p.Stages {
			at := -2 - i
			tell(!slowName(s.Name), api.ErrName, at)
			tell(len(s.Params) > 6, api.ErrMany, at)
			for _, param := range s.Params {
				tell(!slowName(param.Name), api.ErrName, at)
				tell(!typeLike.MatchString(param.T), api.ErrType, at)
			}
			slowBlock(s.Body, 1, &number, tell)
			if stopped {
				return
			}
		}
		tell(!stopped && len(slowText(p)) > 12000, api.ErrSize, -1)
	}
}

func slowBlock(body []api.Stmt, blocks int, number *int, tell func(wrong bool, code, at int)) {
	for _, s := range body {
		at := *number
		*number++
		has := func(field string) bool { return hasWord(fieldsOf[s.Do], field) }
		tell(at == 300, api.ErrMany, at)
		_, known := fieldsOf[s.Do]
		tell(!known, api.ErrForm, at)
		for field, used := range map[string]bool{"A": s.A != "", "B": s.B != "", "T": s.T != "", "N": s.N != 0, "E": len(s.E) > 0, "Body": len(s.Body) > 0, "Else": len(s.Else) > 0} {
			tell(used && !has(field), api.ErrForm, at)
		}
		tell(has("E") && s.Do != api.DoSpawn && len(s.E) != 1, api.ErrForm, at)
		tell(len(s.E) > 6, api.ErrMany, at)
		tell(has("A") && !slowName(s.A), api.ErrName, at)
		tell(has("B") && !slowName(s.B), api.ErrName, at)
		tell(has("T") && !typeLike.MatchString(s.T), api.ErrType, at)
		tell(has("N") && len(strings.TrimLeft(strconv.Itoa(s.N), "0123456789"))+max(0, len(strconv.Itoa(s.N))-18) > 0, api.ErrRange, at)
		for i := range s.E {
			slowExpr(&s.E[i], at, tell)
		}
		tell(has("Body") && blocks == 8, api.ErrDeep, at)
		slowBlock(s.Body, blocks+1, number, tell)
		slowBlock(s.Else, blocks+1, number, tell)
	}
}

func slowExpr(x *api.Expr, at int, tell func(wrong bool, code, at int)) {
	parts := partsOf(x)
	tell(len(parts) > 20, api.ErrMany, at)
	for _, part := range parts {
		want, known := map[int]int{api.OpNum: 0, api.OpName: 0, api.OpNeg: 1, api.OpAdd: 2, api.OpSub: 2, api.OpMul: 2, api.OpLess: 2, api.OpEq: 2}[part.Op]
		tell(!known || len(part.L) != want, api.ErrForm, at)
		tell(part.Op != api.OpNum && part.N != 0, api.ErrForm, at)
		tell(part.Op != api.OpName && part.Name != "", api.ErrForm, at)
		tell(part.Op == api.OpName && !slowName(part.Name), api.ErrName, at)
		tell(part.Op == api.OpNum && (part.N < 0 || len(fmt.Sprint(part.N)) > 18), api.ErrNumber, at)
	}
}

func slowCheck(p api.Program) api.Fault {
	for f := range slowFaults(p) {
		return f
	}
	return api.Fault{}
}

// slowText is point 2 once more, of what may stand as a text.
func slowText(p api.Program) string {
	text := ""
	for _, s := range p.Stages {
		var params []string
		for _, param := range s.Params {
			params = append(params, param.Name+" "+slowType(param.T))
		}
		text += fmt.Sprintf("stage %s(%s) {\n%s}\n", s.Name, strings.Join(params, ", "), slowLines(s.Body))
	}
	return text
}

func slowType(t string) string {
	return strings.NewReplacer("s", "send ", "r", "recv ", "i", "int").Replace(t)
}

func slowLines(body []api.Stmt) string {
	text := ""
	for _, s := range body {
		text += slowStmt(s)
	}
	return regexp.MustCompile(`(?m)^(.)`).ReplaceAllString(text, "\t$1")
}

func slowStmt(s api.Stmt) string {
	var list []string
	for _, x := range s.E {
		list = append(list, slowExprText(x))
	}
	all := strings.Join(list, ", ")
	block := "{\n" + slowLines(s.Body) + "}\n"
	if len(s.Else) > 0 {
		block = "{\n" + slowLines(s.Body) + "} else {\n" + slowLines(s.Else) + "}\n"
	}
	return map[int]string{
		api.DoLet:     fmt.Sprintf("let %s = %s;\n", s.A, all),
		api.DoSet:     fmt.Sprintf("set %s = %s;\n", s.A, all),
		api.DoEmit:    fmt.Sprintf("emit %s;\n", all),
		api.DoChan:    fmt.Sprintf("chan %s %s %s %d;\n", s.A, s.B, slowType(s.T), s.N),
		api.DoClone:   fmt.Sprintf("clone %s %s;\n", s.A, s.B),
		api.DoSend:    fmt.Sprintf("send %s %s;\n", s.A, all),
		api.DoClose:   fmt.Sprintf("close %s;\n", s.A),
		api.DoAbandon: fmt.Sprintf("abandon %s;\n", s.A),
		api.DoDrain:   fmt.Sprintf("drain %s;\n", s.A),
		api.DoSpawn:   fmt.Sprintf("spawn %s(%s);\n", s.A, all),
		api.DoTake:    fmt.Sprintf("take %s from %s %s", s.A, s.B, block),
		api.DoFor:     fmt.Sprintf("for %s from %s %s", s.A, s.B, block),
		api.DoRepeat:  fmt.Sprintf("repeat %s %s", all, block),
		api.DoIf:      fmt.Sprintf("if %s %s", all, block),
	}[s.Do]
}

// slowExprText tries without brackets first, and takes the first text that
// says the expression when it is parsed.
func slowExprText(x api.Expr) string {
	switch x.Op {
	case api.OpNum:
		return fmt.Sprint(x.N)
	case api.OpName:
		return x.Name
	}
	forms := []string{"-%s", "-(%s)"}
	if x.Op != api.OpNeg {
		sign := map[int]string{api.OpAdd: " + ", api.OpSub: " - ", api.OpMul: " * ", api.OpLess: " < ", api.OpEq: " == "}[x.Op]
		forms = []string{"%s" + sign + "%s", "(%s)" + sign + "%s", "%s" + sign + "(%s)", "(%s)" + sign + "(%s)"}
	}
	var parts []any
	for _, part := range x.L {
		parts = append(parts, slowExprText(part))
	}
	for _, form := range forms {
		text := fmt.Sprintf(form, parts...)
		p, f := syntax.Parse("stage a() { emit " + text + "; }")
		if f.Code == 0 && syntax.Same(p, body(emit(x))) {
			return text
		}
	}
	panic("no text for " + fmt.Sprint(x))
}

// The second ones have to know the chapter's examples, too.
func TestSlowText(t *testing.T) {
	if got := slowText(sample()); got != sampleText {
		t.Errorf("slowText: %q, want %q", got, sampleText)
	}
	if got := slowCheck(sample()); got != fault(0, 0) {
		t.Errorf("slowCheck: %v", got)
	}
}
