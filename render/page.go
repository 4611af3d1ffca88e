package render

import (
	"strconv"
	"strings"

	"pipewright/api"
)

// page is a text that is being written, of things that were checked.
type page struct {
	strings.Builder
	blocks int // those that are open
}

func (p *page) add(texts ...string) {
	for _, t := range texts {
		p.WriteString(t)
	}
}

func (p *page) begin(texts ...string) {
	for range p.blocks {
		p.WriteByte('\t')
	}
	p.add(texts...)
}

func (p *page) stage(s api.Stage) {
	p.begin("stage ", s.Name, "(")
	for i, param := range s.Params {
		p.comma(i)
		p.add(param.Name, " ")
		p.typeWords(param.T)
	}
	p.add(") ")
	p.block(s.Body)
	p.add("\n")
}

func (p *page) comma(i int) {
	if i > 0 {
		p.add(", ")
	}
}

func (p *page) typeWords(t string) {
	for i := range len(t) {
		switch t[i] {
		case 's':
			p.add("send ")
		case 'r':
			p.add("recv ")
		default:
			p.add("int")
		}
	}
}

// block leaves its last line open, as an else may go on there.
func (p *page) block(body []api.Stmt) {
	p.add("{\n")
	p.blocks++
	for _, s := range body {
		p.stmt(s)
	}
	p.blocks--
	p.begin("}")
}

func (p *page) stmt(s api.Stmt) {
	p.begin()
	form := forms[s.Do]
	for i := range len(form) {
		switch form[i] {
		case 'A':
			p.add(s.A)
		case 'B':
			p.add(s.B)
		case 'T':
			p.typeWords(s.T)
		case 'N':
			p.add(strconv.Itoa(s.N))
		case 'E':
			p.exprs(s.E)
		case 'S':
			p.block(s.Body)
		case 'O':
			p.otherwise(s.Else)
		default:
			p.WriteByte(form[i])
		}
	}
	p.add("\n")
}

func (p *page) otherwise(body []api.Stmt) {
	if len(body) > 0 {
		p.add(" else ")
		p.block(body)
	}
}

func (p *page) exprs(list []api.Expr) {
	for i, x := range list {
		p.comma(i)
		p.expr(x, comparison)
	}
}

// expr lays x in brackets if it holds together less tightly than it must there.
func (p *page) expr(x api.Expr, must int) {
	if operations[x.Op].holds < must {
		p.add("(")
		p.bare(x)
		p.add(")")
		return
	}
	p.bare(x)
}

func (p *page) bare(x api.Expr) {
	op := operations[x.Op]
	switch op.parts {
	case 0:
		p.leaf(x)
	case 1:
		p.add(op.sign)
		p.expr(x.L[0], op.right)
	default:
		p.expr(x.L[0], op.left)
		p.add(op.sign)
		p.expr(x.L[1], op.right)
	}
}

func (p *page) leaf(x api.Expr) {
	if x.Op == api.OpNum {
		p.add(strconv.FormatInt(x.N, 10))
	} else {
		p.add(x.Name)
	}
}
