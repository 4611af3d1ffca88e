package render

import (
	"strings"

	"pipewright/api"
)

// forms has each kind of statement as it stands in a text. A capital letter is
// a field that the kind has: S is Body, and O (otherwise) is Else.
var forms = [...]string{
	api.DoLet:     "let A = E;",
	api.DoSet:     "set A = E;",
	api.DoEmit:    "emit E;",
	api.DoChan:    "chan A B T N;",
	api.DoClone:   "clone A B;",
	api.DoSend:    "send A E;",
	api.DoClose:   "close A;",
	api.DoAbandon: "abandon A;",
	api.DoDrain:   "drain A;",
	api.DoSpawn:   "spawn A(E);",
	api.DoTake:    "take A from B SO",
	api.DoFor:     "for A from B S",
	api.DoRepeat:  "repeat E S",
	api.DoIf:      "if E SO",
}

func isKind(do int) bool { return api.DoLet <= do && do < len(forms) }

func hasField(do int, letter string) bool { return strings.Contains(forms[do], letter) }

// How tightly a thing holds together, the loosest first.
const (
	comparison = iota
	sum
	product
	unit
)

// operation: what stands on its sides must hold together as tightly as left
// and right say, or is in brackets.
type operation struct {
	parts       int
	sign        string
	holds       int
	left, right int
}

// A comparison is no side of a comparison, and sums and products go together
// from the left: so the right side of all of them, and the left one of a
// comparison, is of the next tighter kind.
var operations = [...]operation{
	api.OpNum:  {holds: unit},
	api.OpName: {holds: unit},
	api.OpNeg:  {parts: 1, sign: "-", holds: unit, right: unit},
	api.OpAdd:  {parts: 2, sign: " + ", holds: sum, left: sum, right: product},
	api.OpSub:  {parts: 2, sign: " - ", holds: sum, left: sum, right: product},
	api.OpMul:  {parts: 2, sign: " * ", holds: product, left: product, right: unit},
	api.OpLess: {parts: 2, sign: " < ", holds: comparison, left: sum, right: sum},
	api.OpEq:   {parts: 2, sign: " == ", holds: comparison, left: sum, right: sum},
}

func isOperation(op int) bool { return api.OpNum <= op && op < len(operations) }
