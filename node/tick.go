package node

import (
	"slices"

	"tattler/api"
	"tattler/sweep"
	"tattler/tree"
)

// Tick lets a tick go by.
func (n *Node) Tick(draw uint64) []string {
	if n == nil {
		return nil
	}
	n.ticks++
	n.clock.Pass(1)
	n.store.Purge(n.clock.Time())
	n.hear(n.doubts.Over(n.ticks))
	pinged := n.tickProbe(draw)
	n.endRequests()
	n.tellHints()
	n.sweepOn()
	for _, node := range pinged {
		if n.isUp(node) {
			n.send(api.Msg{Kind: api.MsgRoot, To: node, Digests: []uint64{n.tree().Root()}})
		}
	}
	return n.sent()
}

// tickProbe tells who was pinged.
func (n *Node) tickProbe(draw uint64) []uint8 {
	helpers := slices.DeleteFunc(n.up(), func(node uint8) bool { return node == n.id })
	round := n.probe.Tick(draw, helpers)
	for _, node := range round.Failed {
		if n.view[node].State == api.Alive {
			suspect := api.Member{State: api.Suspect, Inc: n.view[node].Inc}
			n.hear([]api.News{{Node: node, Member: suspect}})
		}
	}
	for _, node := range round.Pings {
		n.ping(node)
	}
	for _, a := range round.Asks {
		n.send(api.Msg{Kind: api.MsgReq, To: a.Helper, Target: a.Target})
	}
	return round.Pings
}

// tellHints sends each owner the hints that it isn't known to have.
func (n *Node) tellHints() {
	up := n.up()
	n.hints.Settle(up)
	for _, s := range n.hints.Missing(up) {
		if s.To != n.id {
			n.send(api.Msg{Kind: api.MsgHint, To: s.To, Recs: []api.Rec{s.Rec}})
		} else if n.take(s.Rec) {
			n.acked(s.Rec.Key, s.Rec.Stamp, n.id)
		}
	}
}

// sweepOn sweeps the next range with the next node that is up; if no other one is, all of them are passed once.
func (n *Node) sweepOn() {
	others := n.conf.Nodes - 1
	for range others {
		k := n.swept / others
		node := uint8((int(n.id) + 1 + n.swept%others) % n.conf.Nodes)
		n.swept = (n.swept + 1) % (api.Ranges * others)
		if n.isUp(node) {
			n.summarize(node, k)
			return
		}
	}
}

// summarize tells another node what there is of a range.
func (n *Node) summarize(node uint8, k int) {
	n.send(api.Msg{Kind: api.MsgSummary, To: node, Range: uint8(k), Seen: sweep.Summary(n.store.Range(k))})
}

// tree is of all ranges' digests.
func (n *Node) tree() *tree.Tree {
	leaves := make([]uint64, api.Ranges)
	for k := range leaves {
		leaves[k] = n.store.Digest(k)
	}
	t, _ := tree.Of(leaves)
	return t
}
