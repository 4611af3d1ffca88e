package mean

import "pipewright/api"

// do is for tasks that need not wait.
func (t turn) do() {
	switch f := t.innermost().(type) {
	case *block:
		t.doNext(f)
	case *turns:
		t.count(f)
	case *ending:
		t.exit(f)
	}
	t.settle()
}

func (t turn) doNext(b *block) {
	s := b.stmts[b.next]
	b.next++
	event, is := t.wrong(s)
	if !is {
		t.doRight(s, b)
		return
	}
	t.tell(event)
	if s.Do == api.DoTake {
		t.enter(s.Else)
	}
}

func (t turn) doRight(s api.Stmt, b *block) {
	switch s.Do {
	case api.DoLet:
		t.bind(b, s.A, aNumber(t.reckon(s.E[0])))
	case api.DoSet:
		t.vars[s.A] = aNumber(t.reckon(s.E[0]))
	case api.DoEmit:
		t.out = append(t.out, t.reckon(s.E[0]))
	case api.DoChan:
		send, recv := t.Make(s.N, t.number)
		t.bind(b, s.A, anEnd(send))
		t.bind(b, s.B, anEnd(recv))
	case api.DoClone:
		t.bind(b, s.A, anEnd(t.Clone(t.end(s.B), t.number)))
	case api.DoSend:
		t.Put(t.end(s.A), t.handed(s)[0])
	case api.DoClose, api.DoAbandon:
		t.Drop(t.end(s.A))
	case api.DoDrain:
		t.drain(s, b)
	case api.DoSpawn:
		t.spawn(s)
	case api.DoTake:
		t.take(s)
	case api.DoFor:
		t.takeAgain(s, b)
	case api.DoRepeat:
		t.repeat(s)
	case api.DoIf:
		t.branch(s)
	}
}

func (t turn) drain(s api.Stmt, b *block) {
	e := t.end(s.A)
	x, is := t.item(e)
	if !is {
		t.Drop(e)
		return
	}
	t.Drop(x.End) // refused of a number
	b.next--      // once more, till there is none
}

func (t turn) take(s api.Stmt) {
	if x, is := t.item(t.end(s.B)); is {
		t.bind(t.enter(s.Body), s.A, x)
	} else {
		t.enter(s.Else)
	}
}

func (t turn) takeAgain(s api.Stmt, b *block) {
	if x, is := t.item(t.end(s.B)); is {
		b.next-- // once more, behind its Body
		t.bind(t.enter(s.Body), s.A, x)
	}
}

func (t turn) item(e int) (api.Item, bool) {
	x, how := t.Take(e, t.number)
	return x, how == 1
}

func (t turn) spawn(s api.Stmt) {
	handed := t.handed(s)
	child := t.begin(t.byName[s.A], handed)
	for _, x := range handed {
		t.Move(x.End, child) // refused of a number
	}
}

func (t turn) repeat(s api.Stmt) {
	left := min(max(t.reckon(s.E[0]), 0), api.MaxTurns)
	t.frames = append(t.frames, &turns{stmt: s, left: left})
}

func (t turn) branch(s api.Stmt) {
	if t.reckon(s.E[0]) != 0 {
		t.enter(s.Body)
	} else {
		t.enter(s.Else)
	}
}

func (t turn) count(r *turns) {
	r.left--
	if !r.isOver() {
		t.enter(r.stmt.Body)
	}
}

func (t turn) exit(e *ending) {
	for _, end := range t.Of(t.number) {
		t.tell(t.event(api.EventLeak, end))
	}
	e.done, t.vars = true, nil
}
