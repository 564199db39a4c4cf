package node

import (
	"strings"

	"tattler/api"
	"tattler/count"
	"tattler/feed"
	"tattler/say"
)

// How many bytes a session takes at once, and how many commands may wait for it to take any.
const (
	mostTaken   = 4096
	mostWaiting = 64
)

// session is a client's: commands that are done one behind the other.
type session struct {
	feed     *feed.Feed
	commands []api.Cmd       // that wait; the one that is being done is none of them
	quiet    bool            // what the command that is being done is answered isn't said
	asks     bool            // a request of the command that is being done isn't over
	over     bool            // it has quit
	said     strings.Builder // since the last Replies
}

func newSession() *session { return &session{feed: feed.New()} }

func newCounts() (*count.Counts, api.Errno) {
	return count.New([]string{"gets", "hits", "sets", "deletes", "touches", "stored", "lost", "refused", "frames", "bad"})
}

// Client takes bytes of a session.
func (n *Node) Client(session int, s string) ([]string, api.Errno) {
	if n == nil {
		return nil, api.ErrArg
	}
	if session < 0 || session >= len(n.sessions) || n.sessions[session].over {
		return nil, api.ErrNone
	}
	if len(s) > mostTaken {
		return nil, api.ErrLong
	}
	x := n.sessions[session]
	if len(x.commands) >= mostWaiting {
		return nil, api.ErrBusy
	}
	x.commands = append(x.commands, x.feed.Take(s)...)
	n.serve(x)
	return n.sent(), api.OK
}

// Replies is what is said to a session.
func (n *Node) Replies(session int) string {
	if n == nil || session < 0 || session >= len(n.sessions) {
		return ""
	}
	x := n.sessions[session]
	s := x.said.String()
	x.said.Reset()
	return s
}

// serve does a session's commands, up to one that has to wait for other nodes.
func (n *Node) serve(x *session) {
	for len(x.commands) > 0 && !x.asks {
		c := x.commands[0]
		x.commands[0] = api.Cmd{} // what is done isn't kept till the row's memory goes
		x.commands = x.commands[1:]
		x.quiet = c.Quiet
		n.do(x, c)
	}
}

func (n *Node) do(x *session, c api.Cmd) {
	switch c.Kind {
	case api.CmdGet:
		n.get(x, c.Keys, nil)
	case api.CmdSet:
		n.counts.Add("sets", 1)
		n.write(x, n.value(c.Keys[0], c.Flags, c.Body, c.Exptime), api.Stored)
	case api.CmdDelete:
		n.counts.Add("deletes", 1)
		n.change(x, c.Keys[0], api.Deleted, func(r api.Rec) api.Rec {
			return api.Rec{Key: r.Key, Kind: api.Tomb}
		})
	case api.CmdTouch:
		n.counts.Add("touches", 1)
		n.change(x, c.Keys[0], api.Touched, func(r api.Rec) api.Rec {
			return n.value(r.Key, r.Flags, r.Body, c.Exptime)
		})
	case api.CmdStats:
		x.say(say.Stats(n.counts.All()))
	case api.CmdVersion:
		x.say(api.Version)
	case api.CmdQuit:
		x.over = true
	case api.CmdBad:
		x.say(c.Reply)
	}
}

// get reads one key behind the other; live are those that were found so far.
func (n *Node) get(x *session, keys []string, live []api.Rec) {
	if len(keys) == 0 {
		x.say(say.Items(live))
		return
	}
	n.read(x, keys[0], func(r api.Rec, lives bool) {
		n.counts.Add("gets", 1)
		if lives {
			n.counts.Add("hits", 1)
			live = append(live, r)
		}
		n.get(x, keys[1:], live)
	})
}

// change writes what is made of a key's live record.
func (n *Node) change(x *session, key, done string, made func(api.Rec) api.Rec) {
	n.read(x, key, func(r api.Rec, lives bool) {
		if !lives {
			x.say(api.NotFound)
			return
		}
		n.write(x, made(r), done)
	})
}

func (n *Node) value(key string, flags uint32, body string, exptime int64) api.Rec {
	return api.Rec{Key: key, Kind: api.Value, Flags: flags, Body: body, Expiry: n.expiry(exptime)}
}

// expiry is never 0 but of what is never over.
func (n *Node) expiry(exptime int64) uint64 {
	switch now := n.clock.Time(); {
	case exptime == 0:
		return 0
	case exptime < 0:
		return max(now, 1)
	default:
		return min(now+uint64(exptime), api.MaxTime)
	}
}

func (x *session) say(reply string) {
	if !x.quiet {
		x.said.WriteString(reply)
	}
}
