package syntax

import "pipewright/api"

// expr tells of too many parts only once it is over, so that a fault within it
// goes ahead; what is in brackets is an expression, and is over earlier.
func (r *reader) expr() api.Expr {
	begin, before := r.at(), r.parts
	x := r.sum()
	switch {
	case r.sees("<"):
		x = r.joined(api.OpLess, x, r.sum)
	case r.sees("=="):
		x = r.joined(api.OpEq, x, r.sum)
	}
	if r.parts-before > api.MaxTerms {
		panic(giveUp{api.Fault{Code: api.ErrMany, At: begin}})
	}
	return x
}

func (r *reader) sum() api.Expr {
	x := r.product()
	for {
		switch {
		case r.sees("+"):
			x = r.joined(api.OpAdd, x, r.product)
		case r.sees("-"):
			x = r.joined(api.OpSub, x, r.product)
		default:
			return x
		}
	}
}

func (r *reader) product() api.Expr {
	x := r.unit()
	for r.sees("*") {
		x = r.joined(api.OpMul, x, r.unit)
	}
	return x
}

// joined reads a sign and what stands behind it.
func (r *reader) joined(op int, left api.Expr, behind func() api.Expr) api.Expr {
	r.next++
	right := behind()
	return r.part(api.Expr{Op: op, L: []api.Expr{left, right}})
}

func (r *reader) unit() api.Expr {
	switch {
	case r.sees("("):
		r.enter()
		x := r.expr()
		r.skip(")")
		r.open--
		return x
	case r.sees("-"):
		r.enter()
		x := r.unit()
		r.open--
		return r.part(api.Expr{Op: api.OpNeg, L: []api.Expr{x}})
	case r.seesKind(api.TokNumber):
		return r.part(api.Expr{Op: api.OpNum, N: r.number()})
	default:
		return r.part(api.Expr{Op: api.OpName, Name: r.name()})
	}
}

// enter goes past a bracket or a minus sign ahead of a unit.
func (r *reader) enter() {
	if r.open == api.MaxOpen {
		panic(r.fault(api.ErrDeep))
	}
	r.open++
	r.next++
}

// part counts as it goes, since each Expr that is made is a part of all the
// expressions that are being read.
func (r *reader) part(x api.Expr) api.Expr {
	r.parts++
	return x
}
