package render

import (
	"math"
	"slices"
	"testing"

	"pipewright/api"
)

// P4.1
func TestCheckOfTheMostStages(t *testing.T) {
	for n := 1; n <= 3*api.MaxStages; n++ {
		p := stages(slices.Repeat([]api.Stage{{Name: "a"}}, n)...)
		if n <= api.MaxStages {
			wantText(t, p, rep("stage a() {\n}\n", n))
			continue
		}
		wantFault(t, p, api.ErrMany, -1)
		p.Stages[0].Name = ""
		wantFault(t, p, api.ErrMany, -1)
	}
	wantFault(t, stages(make([]api.Stage, 1<<16)...), api.ErrMany, -1)
}

// P4.1
func TestCheckOfTheMostParams(t *testing.T) {
	for n := range 3 * api.MaxParams {
		params := slices.Repeat([]api.Param{{Name: "b", T: "i"}}, n)
		p := stages(api.Stage{Name: "a"}, api.Stage{Name: "a", Params: params})
		if n <= api.MaxParams {
			printed(t, p)
			continue
		}
		wantFault(t, p, api.ErrMany, -3)
		params[0].Name = ""
		wantFault(t, p, api.ErrMany, -3)
		p.Stages[1].Name = ""
		wantFault(t, p, api.ErrName, -3)
	}
	wantFault(t, stages(api.Stage{Name: "a", Params: make([]api.Param, 1<<16)}), api.ErrMany, -2)
}

// P4.1: statements count through all stages, and at any depth.
func TestCheckOfTheMostStmts(t *testing.T) {
	wantText(t, body(emits(api.MaxStmts)...), "stage a() {\n"+rep("\temit 1;\n", api.MaxStmts)+"}\n")
	wantFault(t, body(emits(api.MaxStmts+1)...), api.ErrMany, api.MaxStmts)
	wantFault(t, body(emits(1<<16)...), api.ErrMany, api.MaxStmts)
	for first := range api.MaxStmts + 1 {
		p := stages(api.Stage{Name: "a", Body: emits(first)}, api.Stage{Name: "b"}, api.Stage{Name: "c", Body: emits(api.MaxStmts - first)})
		printed(t, p)
		p.Stages[2].Body = append(p.Stages[2].Body, api.Stmt{})
		wantFault(t, p, api.ErrMany, api.MaxStmts)
		if first > 0 {
			p.Stages[0].Body[first-1].E[0].N = -1
			wantFault(t, p, api.ErrNumber, first-1)
		}
	}
	for _, p := range []api.Program{
		body(api.Stmt{Do: api.DoIf, E: es(num(1)), Body: emits(100), Else: emits(199)}),
		body(api.Stmt{Do: api.DoTake, A: "a", B: "b", Body: emits(299)}),
		body(api.Stmt{Do: api.DoTake, A: "a", B: "b", Else: emits(299)}),
		body(slices.Repeat([]api.Stmt{{Do: api.DoFor, A: "a", B: "b", Body: emits(2)}}, 100)...),
		body(slices.Repeat([]api.Stmt{{Do: api.DoRepeat, E: es(num(1)), Body: emits(1)}}, 150)...),
	} {
		printed(t, p)
		p.Stages = append(p.Stages, api.Stage{Name: "b", Body: []api.Stmt{{}}})
		wantFault(t, p, api.ErrMany, api.MaxStmts)
		p.Stages[1].Name = ""
		wantFault(t, p, api.ErrName, -3)
	}
	// The one that is too many stands in a Body, in an Else, and behind both.
	wantFault(t, body(append(emits(299), api.Stmt{Do: api.DoIf, E: es(num(1)), Body: emits(1)})...), api.ErrMany, 300)
	wantFault(t, body(append(emits(299), api.Stmt{Do: api.DoIf, E: es(num(1)), Else: emits(1)})...), api.ErrMany, 300)
	wantFault(t, body(append(emits(298), api.Stmt{Do: api.DoIf, E: es(num(1)), Else: emits(1)}, emit(num(1)))...), api.ErrMany, 300)
	wantFault(t, body(append(emits(299), api.Stmt{Do: api.DoIf, E: es(num(-1)), Body: emits(1)})...), api.ErrNumber, 299)
}

// P4.1
func TestCheckOfTheMostParts(t *testing.T) {
	sum := func(n int, left bool) api.Expr {
		x := num(1)
		for range n {
			if left {
				x = op(api.OpAdd, x, num(1))
			} else {
				x = op(api.OpAdd, num(1), x)
			}
		}
		return x
	}
	wantExpr(t, negs(19, name("a")), rep("-", 19)+"a")
	wantExpr(t, neg(sum(9, true)), "-(1"+rep(" + 1", 9)+")")
	wantExpr(t, neg(sum(9, false)), "-(1"+rep(" + (1", 8)+" + 1"+rep(")", 9))
	for _, x := range []api.Expr{
		negs(20, name("a")), negs(21, name("a")), sum(10, true), sum(10, false), neg(sum(10, true)), op(api.OpLess, negs(18, num(1)), num(1)),
		op(api.OpMul, sum(5, true), sum(4, false)), op(api.OpMul, sum(4, true), sum(5, false)), negs(1<<16, num(1)), sum(1<<15, true), sum(1<<15, false),
		{Op: api.OpAdd, L: make([]api.Expr, 20)}, {Op: api.OpNum, L: make([]api.Expr, 1<<16)}, {Op: 99, Name: "?", N: -1, L: es(negs(19, num(1)))},
		negs(15, api.Expr{Op: api.OpNum, L: make([]api.Expr, 5)}),
	} {
		wantFault(t, body(emit(x)), api.ErrMany, 0)
		wantFault(t, body(emit(num(1)), api.Stmt{Do: api.DoSpawn, A: "f", E: es(num(1), x, num(-1))}), api.ErrMany, 1)
		wantFault(t, body(api.Stmt{Do: api.DoSpawn, A: "f", E: es(num(-1), x)}), api.ErrNumber, 0)
		wantFault(t, body(api.Stmt{Do: api.DoSpawn, A: "for", E: es(x)}), api.ErrName, 0)
	}
	// Just as many as may be, and wrong in themselves.
	for _, x := range []api.Expr{
		{Op: api.OpAdd, L: make([]api.Expr, 19)}, {Op: 99, L: es(negs(18, num(1)))}, negs(15, api.Expr{Op: api.OpNum, L: make([]api.Expr, 4)}),
		{Op: api.OpAdd, L: es(negs(17, num(1)), api.Expr{})},
	} {
		wantFault(t, body(emit(x)), api.ErrForm, 0)
	}
	// Each E counts for itself.
	full := negs(19, num(1))
	printed(t, body(api.Stmt{Do: api.DoSpawn, A: "f", E: es(full, full, full, full, full, full)}, emit(full)))
}

// P4.1
func TestCheckOfTheMostBlocks(t *testing.T) {
	for do := api.DoLet; do <= api.DoIf; do++ {
		s := kindOf(do)
		if do < api.DoTake {
			printed(t, within(api.MaxDepth, s))
			continue
		}
		wantFault(t, within(api.MaxDepth, s), api.ErrDeep, api.MaxDepth-1)
		s.Else = nil
		wantFault(t, within(api.MaxDepth, s), api.ErrDeep, api.MaxDepth-1)
		s.Body = nil
		wantFault(t, within(api.MaxDepth, s), api.ErrDeep, api.MaxDepth-1)
		printed(t, within(api.MaxDepth-1, kindOf(do)))
		// An Else is a block, too.
		s = kindOf(do)
		for range api.MaxDepth - 2 {
			s = api.Stmt{Do: api.DoTake, A: "a", B: "b", Else: []api.Stmt{s}}
		}
		printed(t, body(s))
		wantFault(t, body(api.Stmt{Do: api.DoIf, E: es(num(1)), Body: emits(3), Else: []api.Stmt{s}}), api.ErrDeep, 10)
	}
	deepest := emit(num(1))
	wantText(t, within(api.MaxDepth, deepest), "stage a() {\n\tif 1 {\n\t\tif 1 {\n\t\t\tif 1 {\n\t\t\t\tif 1 {\n\t\t\t\t\tif 1 {\n\t\t\t\t\t\tif 1 {\n\t\t\t\t\t\t\tif 1 {\n"+
		"\t\t\t\t\t\t\t\temit 1;\n\t\t\t\t\t\t\t}\n\t\t\t\t\t\t}\n\t\t\t\t\t}\n\t\t\t\t}\n\t\t\t}\n\t\t}\n\t}\n}\n")
	// Blocks that are over don't count any more.
	p := within(api.MaxDepth, deepest)
	p.Stages[0].Body = append(p.Stages[0].Body, p.Stages[0].Body...)
	p.Stages = append(p.Stages, p.Stages...)
	printed(t, p)
}

// P4.1: what is wrong with a statement within too many blocks goes ahead of
// ErrDeep, and what is in its Body behind it.
func TestCheckOfDeepOnesThatAreWrong(t *testing.T) {
	at := api.MaxDepth - 1
	deep := func(change func(s *api.Stmt)) api.Program {
		s := api.Stmt{Do: api.DoIf, E: es(op(api.OpAdd, num(1), num(2))), Body: []api.Stmt{{Do: 99}}, Else: []api.Stmt{{Do: 99}}}
		change(&s)
		return within(api.MaxDepth, s)
	}
	wantFault(t, deep(func(s *api.Stmt) {}), api.ErrDeep, at)
	wantFault(t, deep(func(s *api.Stmt) { s.N = 1 }), api.ErrForm, at)
	wantFault(t, deep(func(s *api.Stmt) { s.E = nil }), api.ErrForm, at)
	wantFault(t, deep(func(s *api.Stmt) { s.Do = 15 }), api.ErrForm, at)
	wantFault(t, deep(func(s *api.Stmt) { s.E[0] = negs(20, num(1)) }), api.ErrMany, at)
	wantFault(t, deep(func(s *api.Stmt) { s.E[0].L[1].Op = 0 }), api.ErrForm, at)
	wantFault(t, deep(func(s *api.Stmt) { s.E[0].L[1].N = -2 }), api.ErrNumber, at)
	wantFault(t, deep(func(s *api.Stmt) { s.E[0].L[0] = name("?") }), api.ErrName, at)
	wantFault(t, deep(func(s *api.Stmt) { s.Do, s.E = api.DoTake, nil }), api.ErrName, at)
	wantFault(t, deep(func(s *api.Stmt) { s.Do = api.DoRepeat }), api.ErrForm, at)
}

// P4.1: numbers at the edges of what a text can say.
func TestCheckOfNumbers(t *testing.T) {
	for _, n := range []int64{0, 1, 9, 10, 1<<32 - 1, 1 << 32, 1e17, 1e18 - 2, 1e18 - 1} {
		printed(t, body(emit(num(n)), emit(op(api.OpSub, num(1), neg(num(n))))))
		printed(t, body(api.Stmt{Do: api.DoChan, A: "a", B: "b", T: "i", N: int(n)}))
	}
	for _, n := range []int64{-1, -2, -1e17, math.MinInt64, 1e18, 1e18 + 1, math.MaxInt64} {
		wantFault(t, body(emit(num(1)), emit(num(n))), api.ErrNumber, 1)
		wantFault(t, body(emit(op(api.OpSub, num(1), neg(num(n))))), api.ErrNumber, 0)
		wantFault(t, body(emit(num(1)), api.Stmt{Do: api.DoChan, A: "a", B: "b", T: "i", N: int(n)}), api.ErrRange, 1)
		wantFault(t, body(emit(neg(api.Expr{Op: api.OpName, Name: "a", N: n}))), api.ErrForm, 0)
		wantFault(t, body(api.Stmt{Do: api.DoClose, A: "a", N: int(n)}), api.ErrForm, 0)
	}
}

// ofSize gives a program whose text has just so many bytes.
func ofSize(size int) api.Program {
	p := stages(api.Stage{Name: "a"})
	s := &p.Stages[0]
	left := size - len("stage a() {\n}\n")
	full := api.Stmt{Do: api.DoSpawn, A: "f", E: es(great(), great())}
	for text := len("\tspawn f(, );\n") + 2*(10*18+9*3); left > text+200; left -= text {
		s.Body = append(s.Body, full)
	}
	for ; left > len("\temit 1;\n")+17; left -= len("\temit 1;\n") {
		s.Body = append(s.Body, emit(num(1)))
	}
	n := int64(1)
	for range left - len("\temit 1;\n") {
		n *= 10
	}
	s.Body = append(s.Body, emit(num(n)))
	return p
}

// P4.1: the longest text, and one byte more.
func TestCheckOfTheLongestText(t *testing.T) {
	for _, size := range []int{1000, 5000, api.MaxText - 1, api.MaxText} {
		if text := printed(t, ofSize(size)); len(text) != size {
			t.Errorf("a text of %d bytes, want %d", len(text), size)
		}
	}
	for _, size := range []int{api.MaxText + 1, api.MaxText + 2, 2 * api.MaxText, 50000} {
		p := ofSize(size)
		if n := len(stmtsOf(&p)); n > api.MaxStmts {
			t.Fatalf("%d statements", n)
		}
		wantFault(t, p, api.ErrSize, -1)
		p.Stages[0].Body[len(p.Stages[0].Body)-1].E[0].N = -1
		wantFault(t, p, api.ErrNumber, len(stmtsOf(&p))-1)
		p.Stages = append(p.Stages, api.Stage{Name: "b"}, api.Stage{Name: "c", Params: []api.Param{{}}})
		p.Stages[0].Body[len(p.Stages[0].Body)-1].E[0].N = 1
		wantFault(t, p, api.ErrName, -4)
	}
	// Tabs, names and types are bytes of it as well.
	p := ofSize(api.MaxText - len(" int"))
	p.Stages[0].Params = []api.Param{{Name: "b", T: "i"}}
	wantFault(t, p, api.ErrSize, -1)
	p.Stages[0].Params = nil
	p.Stages[0].Name = "abcdef"
	wantFault(t, p, api.ErrSize, -1)
	p.Stages[0].Name = "abcde"
	printed(t, p)
}

// P1: programs that no text says, of any size.
func TestCheckOfGreatPrograms(t *testing.T) {
	const many = 1 << 16
	for do := -1; do <= api.DoIf+1; do++ {
		for _, inElse := range []bool{false, true} {
			s, kind := api.Stmt{}, kindOf(do)
			for range many - 2 {
				next := kind
				next.Body, next.Else = []api.Stmt{s}, nil
				if inElse {
					next.Body, next.Else = nil, []api.Stmt{s}
				}
				s = next
			}
			want := fault(api.ErrForm, 0)
			if hasWord(fieldsOf[do], "Body") && !inElse || hasWord(fieldsOf[do], "Else") && inElse {
				want = fault(api.ErrDeep, api.MaxDepth-1)
			}
			wantFault(t, body(s), want.Code, want.At)
		}
	}
	wantFault(t, body(make([]api.Stmt, many)...), api.ErrForm, 0)
	wantFault(t, body(api.Stmt{Do: api.DoSpawn, A: "f", E: make([]api.Expr, many)}), api.ErrMany, 0)
	wantFault(t, body(api.Stmt{Do: api.DoLet, A: "f", E: make([]api.Expr, many)}), api.ErrForm, 0)
	wantFault(t, body(api.Stmt{Do: api.DoIf, E: es(num(1)), Body: emits(many), Else: emits(many)}), api.ErrMany, api.MaxStmts)
	// One list that lies in itself many times over.
	list := emits(1)
	x := num(1)
	for range 60 {
		list = []api.Stmt{{Do: api.DoIf, E: es(num(1)), Body: list, Else: list}, {Do: api.DoIf, E: es(num(1)), Body: list, Else: list}}
		x = op(api.OpAdd, x, x)
	}
	wantFault(t, body(list...), api.ErrDeep, api.MaxDepth-1)
	wantFault(t, body(emit(x)), api.ErrMany, 0)
}
