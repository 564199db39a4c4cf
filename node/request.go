package node

import (
	"slices"

	"tattler/api"
	"tattler/ask"
	"tattler/rec"
)

// request is what the owners of a key are asked, and a session waits for.
type request struct {
	number uint32
	of     *session
	key    string
	writes bool
	stamp  api.Stamp // of what is written
	owners []uint8
	ask    *ask.Ask
	end    func() // what is done when it is over
}

func (n *Node) newRequest(x *session, key string) *request {
	n.number++
	owners := n.owners(key)
	return &request{
		number: n.number,
		of:     x,
		key:    key,
		owners: owners,
		ask:    ask.New(owners, n.ticks+uint64(n.conf.Wait)),
	}
}

// read asks the owners of a key for its record; then is told the best one, and whether that is live.
func (n *Node) read(x *session, key string, then func(r api.Rec, lives bool)) {
	q := n.newRequest(x, key)
	q.end = func() {
		r, lives, some := q.ask.Best()
		if some && (lives || r.Kind != api.Value) {
			n.mend(r, q.ask.Behind())
		}
		then(r, lives)
	}
	for _, o := range q.owners {
		if o == n.id {
			q.ask.Take(o, n.known(key))
		} else {
			n.send(api.Msg{Kind: api.MsgRead, To: o, Id: q.number, Keys: []string{key}})
		}
	}
	n.begin(q)
}

// known is what the node answers about a key; of a value that is over the body is no longer told.
func (n *Node) known(key string) api.Reply {
	r, there := n.store.Get(key)
	past := there && r.Kind == api.Value && !rec.Live(r, n.clock.Time())
	if past {
		r.Body = ""
	}
	return api.Reply{Has: there, Past: past, Rec: r}
}

// mend sends a record to those who are behind it.
func (n *Node) mend(r api.Rec, behind []uint8) {
	for _, o := range behind {
		if o == n.id {
			n.take(r)
		} else {
			n.send(api.Msg{Kind: api.MsgWrite, To: o, Recs: []api.Rec{r}})
		}
	}
}

// write sends a record to the owners of its key; done is what is said when it is told to be there.
func (n *Node) write(x *session, r api.Rec, done string) {
	if !n.accept(&r) {
		n.counts.Add("refused", 1)
		x.say(api.Busy)
		return
	}
	q := n.newRequest(x, r.Key)
	q.writes, q.stamp = true, r.Stamp
	q.end = func() {
		if q.ask.Yes() > 0 {
			n.counts.Add("stored", 1)
			x.say(done)
		} else {
			n.counts.Add("lost", 1)
			x.say(api.Lost)
		}
	}
	for _, o := range q.owners {
		if o == n.id {
			n.take(r)
			n.wrote(q, o, n.has(r))
		} else {
			n.send(api.Msg{Kind: api.MsgWrite, To: o, Id: q.number, Recs: []api.Rec{r}})
		}
	}
	n.begin(q)
}

// accept gives a record its stamp and its hint, and tells whether it got both. The hint of a Value has no body: it tells that there is something later, not what.
func (n *Node) accept(r *api.Rec) bool {
	s, e := n.clock.Now()
	if e != api.OK {
		return false
	}
	r.Stamp = s
	trace := api.Rec{Key: r.Key, Stamp: s, Kind: api.Marker}
	if r.Kind == api.Tomb {
		trace.Kind = api.Tomb
	}
	if n.hints.Add(trace) != api.OK {
		return false
	}
	n.accepted = append(n.accepted, fresh(*r))
	return true
}

// wrote takes an owner's answer about a record that is written.
func (n *Node) wrote(q *request, owner uint8, has bool) {
	if q.ask.Take(owner, api.Reply{Has: has}) && has {
		n.acked(q.key, q.stamp, owner)
	}
}

// begin lets a session wait for a request, unless it is over at once.
func (n *Node) begin(q *request) {
	if q.ask.Over(n.ticks) {
		q.end()
		return
	}
	q.of.asks = true
	n.requests = append(n.requests, q)
}

// endRequests ends those that are over; their sessions go on.
func (n *Node) endRequests() {
	var over, still []*request
	for _, q := range n.requests {
		if q.ask.Over(n.ticks) {
			over = append(over, q)
		} else {
			still = append(still, q)
		}
	}
	n.requests = still
	for _, q := range over {
		q.of.asks = false
		q.end()
		n.serve(q.of)
	}
}

// request is the one of a number that is not over, or nil.
func (n *Node) request(number uint32) *request {
	at := slices.IndexFunc(n.requests, func(q *request) bool { return q.number == number })
	if at < 0 {
		return nil
	}
	return n.requests[at]
}
