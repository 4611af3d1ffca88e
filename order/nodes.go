package order

import "math/bits"

// nodes has a bit for each node of a tree; there are at most 2 MaxSites.
type nodes uint64

// sending has those at which somebody waits to send: each second one.
const sending nodes = 0x5555555555555555

func toSend(site int) nodes { return 1 << (2 * site) }

func toReceive(site int) nodes { return 1 << (2*site + 1) }

// across are the other nodes of the same channels.
func (n nodes) across() nodes { return n&sending<<1 | n>>1&sending }

func (n nodes) count() int { return bits.OnesCount64(uint64(n)) }

// list tells them, rising.
func (n nodes) list() []int {
	list := make([]int, 0, n.count())
	for ; n != 0; n &= n - 1 {
		list = append(list, bits.TrailingZeros64(uint64(n)))
	}
	return list
}
