package mean

import "pipewright/api"

// frame is a part of a stage in which a task is. What the task does next is the
// innermost one's.
type frame interface {
	// place is where the text has what is next.
	place() int
	// isOver: has it nothing left to do?
	isOver() bool
}

// block is a Body or an Else, with the names that it bound.
type block struct {
	stmts []api.Stmt
	next  int
	names []string
}

func (b *block) place() int { return b.stmts[b.next].At }

func (b *block) isOver() bool { return b.next == len(b.stmts) }

// turns is a repeat whose E was reckoned; below 0 are left, once it was asked
// whether there is one, and there was none.
type turns struct {
	stmt api.Stmt
	left int64
}

func (r *turns) place() int { return r.stmt.At }

func (r *turns) isOver() bool { return r.left < 0 }

// ending is what stands behind all statements of a stage.
type ending struct {
	at   int
	done bool
}

func (e *ending) place() int { return e.at }

func (e *ending) isOver() bool { return e.done }
