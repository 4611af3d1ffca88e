package ledger

import (
	"testing"

	"pipewright/api"
)

// P15: the chapter's examples, whole.
func TestExamples(t *testing.T) {
	g := New()
	born(t, g, 3, true, 0, 0)
	use(t, g, 0, 0, Drops, 0)
	use(t, g, 0, 1, Drops, api.EventOwner)
	goes(t, g, 0, true)
	goes(t, g, 0, false)
	use(t, g, 0, 0, Through, api.EventSent)
	holds(t, g, api.End{Chan: 3, Send: true, Home: api.HomeDropped, Drops: 2})
}
