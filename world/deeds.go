package world

import "pipewright/api"

// do is for tasks that need not wait.
func (t turn) do() {
	t.next++
	event, is := t.wrong()
	if !is {
		t.doRight()
		return
	}
	t.tell(event)
	if t.ins.Op == api.InTake {
		t.jump()
	}
}

func (t turn) doRight() {
	ins := t.ins
	switch ins.Op {
	case api.InLet:
		t.setNum(ins.A, t.reckon(ins.E))
	case api.InTurns:
		t.setNum(ins.A, min(max(t.reckon(ins.E), 0), api.MaxTurns))
	case api.InEmit:
		t.out = append(t.out, t.reckon(ins.E))
	case api.InChan:
		send, recv := t.Make(ins.N, t.number)
		t.setEnd(ins.A, send)
		t.setEnd(ins.B, recv)
	case api.InClone:
		t.setEnd(ins.A, t.Clone(t.end(ins.B), t.number))
	case api.InSend:
		t.Put(t.end(ins.A), aNumber(t.reckon(ins.E)))
	case api.InGive:
		t.Put(t.end(ins.A), anEnd(t.end(ins.B)))
	case api.InClose, api.InAbandon:
		t.Drop(t.end(ins.A))
	case api.InDrain:
		t.drain()
	case api.InSpawn:
		t.spawn()
	case api.InTake:
		t.take()
	case api.InCount:
		t.count()
	case api.InIf:
		if t.reckon(ins.E) == 0 {
			t.jump()
		}
	case api.InJump:
		t.jump()
	case api.InOver:
		t.setEnd(ins.A, none)
	case api.InExit:
		t.exit()
	}
}

func (t turn) jump() { t.next = t.ins.To }

func (t turn) drain() {
	e := t.end(t.ins.A)
	x, is := t.item(e)
	if !is {
		t.Drop(e)
		return
	}
	if x.End != none {
		t.Drop(x.End)
	}
	t.next-- // once more, till there is none
}

func (t turn) take() {
	x, is := t.item(t.end(t.ins.B))
	if !is {
		t.jump()
		return
	}
	t.vars[t.ins.A] = x
}

func (t turn) item(e int) (api.Item, bool) {
	x, how := t.Take(e, t.number)
	return x, how == 1
}

func (t turn) spawn() {
	var firsts []api.Item
	for _, arg := range t.ins.Args {
		if isNumber(arg) {
			firsts = append(firsts, aNumber(t.reckon(arg.E)))
		} else {
			firsts = append(firsts, anEnd(t.end(arg.V)))
		}
	}
	child := t.begin(t.ins.A, firsts)
	for _, x := range firsts {
		t.Move(x.End, child) // refused of a number
	}
}

func (t turn) count() {
	n := t.num(t.ins.A)
	if n <= 0 {
		t.jump()
		return
	}
	t.setNum(t.ins.A, n-1)
}

func (t turn) exit() {
	for _, e := range t.Of(t.number) {
		t.tell(t.event(api.EventLeak, e))
	}
	t.over, t.vars = true, nil
}
