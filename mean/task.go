package mean

import "pipewright/api"

// none is in the stead of an end where there is none.
const none = -1

// task has its frames, the innermost one last, and a number and an end, as an
// item has, by each name that is bound. One that is over has no frames.
type task struct {
	stage  int
	frames []frame
	vars   map[string]api.Item
}

func (t *task) isOver() bool { return len(t.frames) == 0 }

func (t *task) innermost() frame { return t.frames[len(t.frames)-1] }

func (t *task) enter(stmts []api.Stmt) *block {
	b := &block{stmts: stmts}
	t.frames = append(t.frames, b)
	return b
}

func (t *task) bind(b *block, name string, x api.Item) {
	t.vars[name] = x
	b.names = append(b.names, name)
}

// settle leaves what is over, so that the innermost frame has something to do.
// What a block bound is out of use behind it, as it may be come to again.
func (t *task) settle() {
	for !t.isOver() && t.innermost().isOver() {
		if b, ok := t.innermost().(*block); ok {
			t.forget(b)
		}
		t.frames = t.frames[:len(t.frames)-1]
	}
}

func (t *task) forget(b *block) {
	for _, name := range b.names {
		delete(t.vars, name)
	}
}

// value is 0 and no end where a name is known, but what was to bind it went wrong.
func (t *task) value(name string) api.Item {
	if x, ok := t.vars[name]; ok {
		return x
	}
	return aNumber(0)
}

func (t *task) end(name string) int { return t.value(name).End }

func aNumber(n int64) api.Item { return api.Item{N: n, End: none} }

func anEnd(e int) api.Item { return api.Item{End: e} }

// reckon leans on kinds.Check: each Op has its parts, and each name is known.
func (t *task) reckon(e api.Expr) int64 {
	switch e.Op {
	case api.OpNum:
		return e.N
	case api.OpName:
		return t.value(e.Name).N
	case api.OpNeg:
		return -t.reckon(e.L[0])
	}
	return joined(e.Op, t.reckon(e.L[0]), t.reckon(e.L[1]))
}

func joined(op int, a, b int64) int64 {
	switch op {
	case api.OpAdd:
		return a + b
	case api.OpSub:
		return a - b
	case api.OpMul:
		return a * b
	case api.OpLess:
		return truth(a < b)
	}
	return truth(a == b)
}

func truth(is bool) int64 {
	if is {
		return 1
	}
	return 0
}
