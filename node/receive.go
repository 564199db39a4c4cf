package node

import (
	"tattler/api"
	"tattler/ring"
	"tattler/sweep"
	"tattler/tree"
)

// mostApart is how many ranges are swept, of those that differ.
const mostApart = 2

// Receive takes a frame.
func (n *Node) Receive(s string) []string {
	if n == nil {
		return nil
	}
	n.counts.Add("frames", 1)
	m, e := n.codec.Unpack(s)
	if e != api.OK || m.To != n.id || m.From == n.id || int(m.From) >= n.conf.Nodes {
		n.counts.Add("bad", 1)
		return nil
	}
	n.hear(m.News)
	n.handle(m)
	return n.sent()
}

func (n *Node) handle(m api.Msg) {
	switch m.Kind {
	case api.MsgPing:
		n.ack(m.From)
	case api.MsgReq:
		n.handleReq(m)
	case api.MsgAck:
		n.handleAck(m)
	case api.MsgWrite:
		n.handleWrite(m)
	case api.MsgWrote:
		n.handleWrote(m)
	case api.MsgRead:
		n.handleRead(m)
	case api.MsgItem:
		n.handleItem(m)
	case api.MsgHint:
		n.handleHint(m)
	case api.MsgHinted:
		for _, r := range m.Recs {
			n.acked(r.Key, r.Stamp, m.From)
		}
	case api.MsgRoot:
		n.handleRoot(m)
	case api.MsgLeaves:
		n.handleLeaves(m)
	case api.MsgSummary:
		n.handleSummary(m)
	case api.MsgPull:
		n.push(m.From, n.records(m.Keys))
	case api.MsgPush:
		for _, r := range m.Recs {
			n.take(r)
		}
	}
}

// handleReq asks no node that there isn't: a frame to it would go nowhere.
func (n *Node) handleReq(m api.Msg) {
	if m.Target == n.id {
		n.ack(m.From)
	} else if int(m.Target) < n.conf.Nodes {
		n.askers[m.Target] |= 1 << m.From
		n.ping(m.Target)
	}
}

func (n *Node) handleAck(m api.Msg) {
	n.probe.Answer(m.Target)
	asked := n.askers[m.Target]
	n.askers[m.Target] = 0
	for node := range uint8(api.MaxNodes) {
		if asked>>node&1 == 1 {
			n.send(api.Msg{Kind: api.MsgAck, To: node, Target: m.Target})
		}
	}
}

func (n *Node) handleWrite(m api.Msg) {
	if len(m.Recs) != 1 {
		return
	}
	r := m.Recs[0]
	n.take(r)
	if m.Id == 0 {
		return
	}
	n.send(api.Msg{
		Kind: api.MsgWrote, To: m.From, Id: m.Id,
		Flag: n.has(r),
		Recs: []api.Rec{{Key: r.Key, Stamp: r.Stamp, Kind: api.Marker}},
	})
}

func (n *Node) handleWrote(m api.Msg) {
	q := n.request(m.Id)
	if q == nil || !q.writes || len(m.Recs) != 1 || m.Recs[0].Key != q.key || m.Recs[0].Stamp != q.stamp {
		return
	}
	n.wrote(q, m.From, m.Flag)
	n.endRequests()
}

func (n *Node) handleRead(m api.Msg) {
	if len(m.Keys) != 1 {
		return
	}
	known := n.known(m.Keys[0])
	item := api.Msg{Kind: api.MsgItem, To: m.From, Id: m.Id, Keys: m.Keys, Flag: known.Past}
	if known.Has {
		item.Recs = []api.Rec{known.Rec}
	}
	n.send(item)
}

func (n *Node) handleItem(m api.Msg) {
	q := n.request(m.Id)
	if q == nil || q.writes || len(m.Keys) != 1 || m.Keys[0] != q.key {
		return
	}
	var answer api.Reply
	for _, r := range m.Recs {
		if r.Key == q.key && !answer.Has {
			answer = api.Reply{Has: true, Past: m.Flag, Rec: r}
		}
	}
	q.ask.Take(m.From, answer)
	n.endRequests()
}

func (n *Node) handleHint(m api.Msg) {
	var covered []api.Rec
	for _, r := range m.Recs {
		if n.take(r) {
			covered = append(covered, r)
		}
	}
	n.send(api.Msg{Kind: api.MsgHinted, To: m.From, Recs: covered})
}

func (n *Node) handleRoot(m api.Msg) {
	mine := n.tree()
	if len(m.Digests) == 1 && m.Digests[0] != mine.Root() {
		n.send(api.Msg{Kind: api.MsgLeaves, To: m.From, Digests: mine.Leaves()})
	}
}

func (n *Node) handleLeaves(m api.Msg) {
	theirs, e := tree.Of(m.Digests)
	if e != api.OK {
		return
	}
	apart := n.tree().Apart(theirs)
	for _, k := range apart[:min(mostApart, len(apart))] {
		n.summarize(m.From, k)
	}
}

// handleSummary looks up what is seen by itself, not in the range: so what the node has is never asked for, whatever range the sender says.
func (n *Node) handleSummary(m api.Msg) {
	up := n.up()
	var theirs []api.Rec
	for _, r := range n.store.Range(int(m.Range)) {
		if ring.Owns(r.Key, up, m.From) {
			theirs = append(theirs, r)
		}
	}
	n.push(m.From, sweep.Push(theirs, m.Seen))
	var mine []api.Seen
	var keys []string
	for _, x := range m.Seen {
		if ring.Owns(x.Key, up, n.id) {
			mine = append(mine, x)
			keys = append(keys, x.Key)
		}
	}
	if wanted := sweep.Pull(n.records(keys), mine); len(wanted) > 0 {
		n.send(api.Msg{Kind: api.MsgPull, To: m.From, Keys: wanted})
	}
}
