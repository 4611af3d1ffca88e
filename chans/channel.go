package chans

import (
	"pipewright/api"
	"pipewright/ring"
)

type channel struct {
	items   *ring.Ring[api.Item]
	senders int
	gone    bool
}

func (c *channel) stopsSenders() bool { return !c.gone && c.items.Full() }

func (c *channel) stopsReceiver() bool { return c.items.Len() == 0 && c.senders > 0 }

// end makes the channel gone, and answers the ends that lay in it, the first one
// last.
func (c *channel) end() []int {
	c.gone = true
	items := c.items.Clear()
	var lay []int
	for n := range items {
		if x := items[len(items)-1-n]; isEnd(x) {
			lay = append(lay, x.End)
		}
	}
	return lay
}

func (c *channel) view() api.Chan {
	return api.Chan{Slots: c.items.Slots(), Senders: c.senders, Gone: c.gone, Items: c.items.All()}
}

func isEnd(x api.Item) bool { return x.End >= 0 }

// plain has nothing beside what the item is, so that items that mean the same
// are the same.
func plain(x api.Item) api.Item {
	if isEnd(x) {
		return api.Item{End: x.End}
	}
	return api.Item{N: x.N, End: -1}
}
