package world

import "pipewright/api"

// none is in the stead of an end where there is none.
const none = -1

// task has in each variable a number and an end, as an item has. One that is
// over needs none of them any more.
type task struct {
	stage int
	next  int
	vars  []api.Item
	over  bool
}

func (t *task) end(v int) int { return t.vars[v].End }

func (t *task) setEnd(v, e int) { t.vars[v].End = e }

func (t *task) num(v int) int64 { return t.vars[v].N }

func (t *task) setNum(v int, n int64) { t.vars[v].N = n }

func aNumber(n int64) api.Item { return api.Item{N: n, End: none} }

func anEnd(e int) api.Item { return api.Item{End: e} }

// reckon leans on lower.Check: no step takes more than there is, and one number
// is left.
func (t *task) reckon(steps []api.Push) int64 {
	var stack []int64
	for _, step := range steps {
		last := len(stack) - 1
		switch step.Op {
		case api.PushNum:
			stack = append(stack, step.N)
		case api.PushVar:
			stack = append(stack, t.num(int(step.N)))
		case api.PushNeg:
			stack[last] = -stack[last]
		default:
			stack[last-1] = joined(step.Op, stack[last-1], stack[last])
			stack = stack[:last]
		}
	}
	return stack[0]
}

func joined(op int, a, b int64) int64 {
	switch op {
	case api.PushAdd:
		return a + b
	case api.PushSub:
		return a - b
	case api.PushMul:
		return a * b
	case api.PushLess:
		return truth(a < b)
	}
	return truth(a == b)
}

func truth(is bool) int64 {
	if is {
		return 1
	}
	return 0
}
