package node

import (
	"tattler/api"
	"tattler/rec"
	"tattler/view"
)

// besides is more than all bytes that a message of records has besides them.
const besides = 128

// sent is what goes out behind a call.
func (n *Node) sent() []string {
	out := n.out
	n.out = nil
	return out
}

// send packs a message; where it doesn't tell the whole view, some news go with it.
func (n *Node) send(m api.Msg) {
	m.From = n.id
	if m.News == nil {
		m.News = n.talk.Take()
	}
	if s, e := n.codec.Pack(m); e == api.OK {
		n.out = append(n.out, s)
	}
}

func (n *Node) ping(node uint8) {
	n.send(api.Msg{Kind: api.MsgPing, To: node, News: view.All(n.view)})
}

func (n *Node) ack(node uint8) {
	n.send(api.Msg{Kind: api.MsgAck, To: node, Target: n.id, News: view.All(n.view)})
}

// push sends records, in as many frames as they take: a whole store's may be more than one frame holds.
func (n *Node) push(node uint8, l []api.Rec) {
	for len(l) > 0 {
		many := fitting(l)
		n.send(api.Msg{Kind: api.MsgPush, To: node, Recs: l[:many]})
		l = l[many:]
	}
}

// fitting is how many of the first records go into one frame; one always does.
func fitting(l []api.Rec) int {
	room := api.MaxFrame - besides
	for i, r := range l {
		s, _ := rec.Put(r)
		room -= len(s)
		if room < 0 {
			return i
		}
	}
	return len(l)
}
