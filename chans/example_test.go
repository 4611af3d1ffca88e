package chans

import (
	"testing"

	"pipewright/api"
)

// The chapter's examples.
func TestExamples(t *testing.T) {
	s := New()
	makes(t, s, 1, 0, 0, 1)
	puts(t, s, 0, num(5), true)
	waits(t, s, 0, true)
	takes(t, s, 1, 0, num(5), 1)
	waits(t, s, 1, true)
	drops(t, s, 0, true)
	takes(t, s, 1, 0, api.Item{}, 0)
	holds(t, s, state{
		[]api.End{went(send(0, 0), 1), recv(0, 0)},
		[]api.Chan{{Slots: 1}},
	})
}

// And the document's: an end that is sent through a channel whose end to receive
// is dropped is dropped with it.
func TestDocumentsExample(t *testing.T) {
	for e := 2; e < 4; e++ {
		lies, late := channels(t, 2), channels(t, 2)
		puts(t, lies, 0, end(e), true)
		drops(t, lies, 1, true)
		drops(t, late, 1, true)
		puts(t, late, 0, end(e), true)
		holds(t, lies, stateOf(late))
		if x, _ := lies.End(e); x.Home != api.HomeDropped || x.Drops != 1 {
			t.Errorf("the end %d: %v", e, x)
		}
	}
}
