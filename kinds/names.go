package kinds

import (
	"strings"

	"pipewright/api"
)

// names are those of one stage. A name is bound but once in a stage, in
// whatever block, so that its number stands for it in all of them.
type names struct {
	vars  []api.Var
	bound map[string]int // the number in vars of each of them
	known map[string]int // of those alone that are known at the place gone to
}

func newNames() names {
	return names{bound: make(map[string]int), known: make(map[string]int)}
}

// bind copies the texts, since vars is handed out.
func (n *names) bind(vars ...api.Var) {
	for _, v := range vars {
		n.bound[v.Name], n.known[v.Name] = len(n.vars), len(n.vars)
		n.vars = append(n.vars, api.Var{Name: strings.Clone(v.Name), T: strings.Clone(v.T)})
	}
}

// open begins a block. What ends it leaves the names bound that were bound
// since, blocks within it among them, but known no more.
func (n *names) open() (end func()) {
	first := len(n.vars)
	return func() {
		for _, v := range n.vars[first:] {
			delete(n.known, v.Name)
		}
	}
}

// repeats asks whether one of the names cannot be bound any more, or is there
// twice.
func (n *names) repeats(vars ...api.Var) bool {
	fresh := make(map[string]int)
	for _, v := range vars {
		fresh[v.Name]++
		if _, is := n.bound[v.Name]; is || fresh[v.Name] > 1 {
			return true
		}
	}
	return false
}

// typeOf is empty for a name that is not known.
func (n *names) typeOf(name string) string {
	if number, is := n.known[name]; is {
		return n.vars[number].T
	}
	return ""
}

func (n *names) code(name string, fits func(t string) bool) int {
	t := n.typeOf(name)
	switch {
	case t == "":
		return api.ErrNone
	case !fits(t):
		return api.ErrType
	}
	return 0
}

// exprCode asks whether x is a thing of type t.
func (n *names) exprCode(x api.Expr, t string) int {
	if x.Op == api.OpName {
		return n.code(x.Name, func(has string) bool { return has == t })
	}
	if t != "i" {
		return api.ErrType
	}
	for _, part := range x.L {
		if code := n.exprCode(part, "i"); code != 0 {
			return code
		}
	}
	return 0
}
