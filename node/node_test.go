package node

import (
	"fmt"
	"math"
	"slices"
	"strings"
	"testing"

	"tattler/api"
	"tattler/rec"
	"tattler/ring"
)

func conf(nodes int) api.Conf {
	return api.Conf{Nodes: nodes, Slots: 20, Bytes: 2000, Hints: 4, Sessions: 2, Drift: 5, Keep: 100, Suspect: 4, Wait: 3}
}

// start is the node 0 among others, at the time 10, with room enough.
func start(t *testing.T, nodes int) *both {
	t.Helper()
	return newBoth(t, conf(nodes), 0, 10, false)
}

func at(phys uint64, logical uint32, node uint8) api.Stamp {
	return api.Stamp{Phys: phys, Logical: logical, Node: node}
}

func value(key string, s api.Stamp, body string) api.Rec {
	return api.Rec{Key: key, Stamp: s, Kind: api.Value, Body: body}
}

func tomb(key string, s api.Stamp) api.Rec { return api.Rec{Key: key, Stamp: s, Kind: api.Tomb} }

func marker(key string, s api.Stamp) api.Rec { return api.Rec{Key: key, Stamp: s, Kind: api.Marker} }

// keyOf is a key of just these owners among nodes, in this order; the i-th one that there is.
func keyOf(nodes int, i int, owners ...uint8) string {
	var all []uint8
	for node := range uint8(nodes) {
		all = append(all, node)
	}
	for k := 0; ; k++ {
		key := fmt.Sprint("k", k)
		if !slices.Equal(ring.Owners(key, all), owners) {
			continue
		}
		if i == 0 {
			return key
		}
		i--
	}
}

func (b *both) msgs(out []string) []api.Msg {
	b.t.Helper()
	l := make([]api.Msg, len(out))
	for i, s := range out {
		m, e := b.codec.Unpack(s)
		if e != api.OK || m.From != b.p.id || m.To == b.p.id || int(m.To) >= b.conf.Nodes {
			b.fail("%d: %+v", e, m)
		}
		l[i] = m
	}
	return l
}

// expect lays what went out against what was reckoned by hand; From is the node's. News are held only where they are reckoned, too: all of them are held by the peer.
func (b *both) expect(got []api.Msg, want ...api.Msg) {
	b.t.Helper()
	for i := range max(len(got), len(want)) {
		var g, w string
		if i < len(got) {
			m := got[i]
			if i < len(want) && len(want[i].News) == 0 {
				m.News = nil
			}
			g, _ = b.codec.Pack(m)
		}
		if i < len(want) {
			want[i].From = b.p.id
			w, _ = b.codec.Pack(want[i])
		}
		if g != w || i >= len(got) || i >= len(want) {
			b.fail("%d:\n%+v\nnot\n%+v", i, got, want)
		}
	}
}

// says hands a session bytes, and lays all its replies against what is wanted; what goes out is answered.
func (b *both) says(session int, s, want string) []api.Msg {
	b.t.Helper()
	out, e := b.client(session, s)
	if e != api.OK {
		b.fail("%.100q: %d", s, e)
	}
	b.said(session, want)
	return b.msgs(out)
}

func (b *both) said(session int, want string) {
	b.t.Helper()
	if got := b.replies(session); got != want {
		b.fail("%q, not %q", got, want)
	}
}

// refuses holds that a session doesn't take bytes, and that nothing comes of it.
func (b *both) refuses(session int, s string, want api.Errno) {
	b.t.Helper()
	was := b.n.Sizes()
	if out, e := b.client(session, s); e != want || len(out) != 0 || b.n.Sizes() != was {
		b.fail("%d, not %d; %d frames", e, want, len(out))
	}
}

// gets hands the node a message of another one, for it unless it says otherwise.
func (b *both) gets(m api.Msg) []api.Msg {
	b.t.Helper()
	s, e := b.codec.Pack(m)
	if e != api.OK {
		b.fail("%d: %+v", e, m)
	}
	return b.msgs(b.receive(s))
}

func (b *both) has(key string, want api.Rec) {
	b.t.Helper()
	if r, some := b.record(key); r != want || some != (want.Kind != 0) {
		b.fail("%q: %+v, not %+v", key, r, want)
	}
}

// stat is what the node's stats say of a name; another session asks for them.
func (b *both) stat(name string) string {
	b.t.Helper()
	last := b.conf.Sessions - 1
	if _, e := b.client(last, "stats\r\n"); e != api.OK {
		b.fail("%d", e)
	}
	_, s, _ := strings.Cut(b.replies(last), "STAT "+name+" ")
	s, _, _ = strings.Cut(s, "\r\n")
	return s
}

func (b *both) ticks(n int) []api.Msg {
	b.t.Helper()
	var l []api.Msg
	for range n {
		l = append(l, b.msgs(b.tick(0))...)
	}
	return l
}

// kinds are the messages of these kinds, of a row of them.
func kinds(l []api.Msg, kinds ...uint8) []api.Msg {
	return slices.DeleteFunc(slices.Clone(l), func(m api.Msg) bool { return !slices.Contains(kinds, m.Kind) })
}

// P24.1: the chapter's example.
func TestExample(t *testing.T) {
	b := start(t, 1)
	b.expect(b.says(0, "set a 5 0 2\r\nxy\r\nget a\r\n", "STORED\r\nVALUE a 5 2\r\nxy\r\nEND\r\n"))
}

// P24.1: each field of a configuration just at its bounds, and just beyond them.
func TestNewConf(t *testing.T) {
	type field struct {
		name        string
		of          func(c *api.Conf) *int
		least, most int
	}
	for _, f := range []field{
		{"Nodes", func(c *api.Conf) *int { return &c.Nodes }, 1, 64},
		{"Slots", func(c *api.Conf) *int { return &c.Slots }, 1, 1024},
		{"Bytes", func(c *api.Conf) *int { return &c.Bytes }, 1, 1 << 20},
		{"Hints", func(c *api.Conf) *int { return &c.Hints }, 1, 64},
		{"Sessions", func(c *api.Conf) *int { return &c.Sessions }, 1, 8},
		{"Drift", func(c *api.Conf) *int { return &c.Drift }, 0, 1000},
		{"Keep", func(c *api.Conf) *int { return &c.Keep }, 1, 1000},
		{"Suspect", func(c *api.Conf) *int { return &c.Suspect }, 1, 1000},
		{"Wait", func(c *api.Conf) *int { return &c.Wait }, 1, 1000},
	} {
		for _, x := range []int{math.MinInt, -1, f.least - 1, f.least, f.least + 1, f.most - 1, f.most, f.most + 1, 1 << 32, math.MaxInt} {
			c := conf(3)
			*f.of(&c) = x
			n, e := New(c, 0, 10, false)
			if may := x >= f.least && x <= f.most; may != (e == api.OK) || may != (n != nil) || !may && e != api.ErrArg {
				t.Errorf("%s %d: %v, %d", f.name, x, n != nil, e)
			}
		}
	}
}

// P24.1: an id that is below Nodes or isn't, a time up to MaxTime and above it.
func TestNewIdAndTime(t *testing.T) {
	for _, nodes := range []int{1, 2, 3, 63, 64} {
		for _, id := range []int{0, 1, 2, 3, 62, 63, 64, 65, 255} {
			n, e := New(conf(nodes), uint8(id), 10, false)
			if may := id < nodes; may != (e == api.OK) || may != (n != nil) || !may && e != api.ErrArg {
				t.Errorf("%d of %d: %v, %d", id, nodes, n != nil, e)
			}
		}
	}
	for _, time := range []uint64{0, 1, api.MaxTime - 1, api.MaxTime, api.MaxTime + 1, math.MaxUint64} {
		n, e := New(conf(3), 0, time, true)
		if may := time <= api.MaxTime; may != (e == api.OK) || may != (n != nil) || !may && e != api.ErrArg {
			t.Errorf("%d: %v, %d", time, n != nil, e)
		}
		if n != nil && n.Time() != time {
			t.Errorf("%d: %d", time, n.Time())
		}
	}
}

// P24.1: one with nothing: no records, hints, requests or talk; all others are Alive, of the incarnation 0.
func TestNewIsFresh(t *testing.T) {
	for _, nodes := range []int{1, 3, 64} {
		b := newBoth(t, conf(nodes), uint8(nodes-1), 77, true)
		v := b.n.View()
		if b.n.Sizes() != (api.Sizes{}) || len(v) != nodes || len(b.wrote()) != 0 || b.replies(0) != "" {
			t.Errorf("%d: %+v, %v", nodes, b.n.Sizes(), v)
		}
		for _, m := range v {
			if m != (api.Member{State: api.Alive}) {
				t.Errorf("%d: %v", nodes, v)
			}
		}
		b.same()
	}
}

// P7, P24.1: a clock that has to rest gives no stamp up to its beginning and the drift; reads need none.
func TestRests(t *testing.T) {
	b := newBoth(t, conf(1), 0, 10, true)
	for range 6 { // the times 10 to 15
		b.expect(b.says(0, "set a 0 0 1\r\nx\r\nget a\r\ndelete a\r\n", "SERVER_ERROR busy\r\nEND\r\nNOT_FOUND\r\n"))
		if z := b.n.Sizes(); z != (api.Sizes{}) || len(b.wrote()) != 0 {
			t.Fatalf("%+v", z)
		}
		b.ticks(1)
	}
	b.says(0, "set a 0 0 1\r\nx\r\nget a\r\n", "STORED\r\nVALUE a 0 1\r\nx\r\nEND\r\n")
	if l := b.wrote(); len(l) != 1 || l[0] != value("a", at(16, 0, 0), "x") || b.stat("refused") != "6" || b.stat("sets") != "7" {
		t.Errorf("%v", l)
	}
}

// P24.1: sessions that are there, aren't, or are over.
func TestSessions(t *testing.T) {
	b := start(t, 1)
	for _, s := range []int{math.MinInt, -1, 2, 3, 8, math.MaxInt} {
		b.refuses(s, "version\r\n", api.ErrNone)
		b.refuses(s, strings.Repeat("x", 4097), api.ErrNone)
		b.said(s, "")
	}
	b.says(0, "version\r\nget", api.Version)
	b.says(1, "ver", "")
	b.says(0, " a\r\nquit\r\nversion\r\n", api.End)
	b.refuses(0, "version\r\n", api.ErrNone)
	b.refuses(0, "", api.ErrNone)
	b.refuses(0, strings.Repeat("x", 4097), api.ErrNone)
	b.said(0, "")
	b.says(1, "sion\r\n", api.Version)
	// What was said ahead of the quit is there till somebody asks.
	if _, e := b.client(1, "version\r\nversion\r\nquit\r\n"); e != api.OK {
		t.Fatal(e)
	}
	b.ticks(3)
	b.said(1, api.Version+api.Version)
	b.said(1, "")
	b.refuses(1, "version\r\n", api.ErrNone)
}

// P24.1: at most 4096 bytes at once; what is refused isn't part of the stream.
func TestClientLong(t *testing.T) {
	b := start(t, 1)
	line := "set a 0 0 1024\r\n" + strings.Repeat("z", 1024) + "\r\n"
	text := line + line + line
	text += "get a" + strings.Repeat(" ", 4096-len(text)-len("get a\r\n")) + "\r\n"
	b.says(0, "ver", "")
	b.refuses(0, strings.Repeat("\n", 4097), api.ErrLong)
	b.refuses(0, strings.Repeat("\n", 1<<20), api.ErrLong)
	b.says(0, "sion\r\n", api.Version)
	b.says(0, text, strings.Repeat(api.Stored, 3)+"VALUE a 0 1024\r\n"+strings.Repeat("z", 1024)+"\r\n"+api.End)
	b.says(0, strings.Repeat("\n", 4096), strings.Repeat("ERROR\r\n", 4096))
	b.says(0, "", "")
}

// P24.1, P24.4: 63 commands that wait let more in, 64 don't; the one that is being done is none of them.
func TestClientBusy(t *testing.T) {
	key := keyOf(3, 0, 1, 2)
	for _, many := range []int{0, 1, 62, 63, 64, 65, 4000} {
		b := start(t, 3)
		if l := b.says(0, "get "+key+"\n"+strings.Repeat("\n", many), ""); len(l) != 2 || b.n.Sizes().Waiting != many || b.n.Sizes().Asks != 1 {
			t.Fatalf("%d: %d, %+v", many, len(l), b.n.Sizes())
		}
		if many >= 64 {
			b.refuses(0, "\n", api.ErrBusy)
			b.refuses(0, "", api.ErrBusy)
			b.refuses(0, strings.Repeat("\n", 4097), api.ErrLong)
			b.says(1, "version\r\n", api.Version)
			b.ticks(3)
			b.said(0, api.End+strings.Repeat("ERROR\r\n", many))
			b.says(0, "version\r\n", api.Version)
			continue
		}
		b.says(0, strings.Repeat("\n", 4096), "")
		if z := b.n.Sizes(); z.Waiting != many+4096 || z.Waiting > 4160 {
			t.Fatalf("%d: %+v", many, z)
		}
		b.ticks(3)
		b.said(0, api.End+strings.Repeat("ERROR\r\n", many+4096))
		if z := b.n.Sizes(); z.Waiting != 0 || z.Asks != 0 {
			t.Fatalf("%d: %+v", many, z)
		}
	}
}

// P24.1: a quit waits for its turn; what comes behind it is read no more.
func TestQuitWaits(t *testing.T) {
	b := start(t, 3)
	b.says(0, "get "+keyOf(3, 0, 1, 2)+"\r\nquit\r\nversion\r\n", "")
	if z := b.n.Sizes(); z.Waiting != 1 {
		t.Fatalf("%+v", z)
	}
	b.says(0, "version\r\n", "")
	b.ticks(3)
	b.said(0, api.End)
	b.refuses(0, "version\r\n", api.ErrNone)
}

// P24.1: each command, and its noreply; keys that are there, are over, were deleted, never were.
func TestCommands(t *testing.T) {
	b := start(t, 1)
	for _, x := range []struct{ say, want string }{
		{"get a\r\n", "END\r\n"},
		{"delete a\r\n", "NOT_FOUND\r\n"},
		{"touch a 5\r\n", "NOT_FOUND\r\n"},
		{"delete a noreply\r\ntouch a 5 noreply\r\n", ""},
		{"set a 4294967295 0 3\r\n\r\nx\r\n", "STORED\r\n"},
		{"get a\r\n", "VALUE a 4294967295 3\r\n\r\nx\r\nEND\r\n"},
		{"set a 0 0 0 noreply\r\n\r\n", ""},
		{"get b a c a\r\n", "VALUE a 0 0\r\n\r\nVALUE a 0 0\r\n\r\nEND\r\n"},
		{"touch a 0\r\n", "TOUCHED\r\n"},
		{"touch a 0 noreply\r\n", ""},
		{"get a\r\n", "VALUE a 0 0\r\n\r\nEND\r\n"},
		{"delete a\r\n", "DELETED\r\n"},
		{"get a\r\ndelete a\r\ntouch a 1\r\n", "END\r\nNOT_FOUND\r\nNOT_FOUND\r\n"},
		{"set a 1 0 1\r\ny\r\ndelete a noreply\r\nget a\r\n", "STORED\r\nEND\r\n"},
		{"set a 1 -1 1\r\ny\r\nget a\r\ntouch a 9\r\ndelete a\r\n", "STORED\r\nEND\r\nNOT_FOUND\r\nNOT_FOUND\r\n"},
		{"set a 1 0 2\r\nyes\r\nget a\r\n", "CLIENT_ERROR bad data chunk\r\nEND\r\n"},
		{"version\r\nVERSION\r\nget\r\n", "VERSION tattler 1\r\nERROR\r\nCLIENT_ERROR bad command line format\r\n"},
	} {
		b.expect(b.says(0, x.say, x.want))
	}
	for _, x := range b.wrote() {
		if !rec.May(x) {
			t.Errorf("%+v", x)
		}
	}
}

// P24.1: an expiry of 0, below it, above it, and beyond MaxTime, of a set and of a touch.
func TestExpiry(t *testing.T) {
	for _, x := range []struct {
		time    uint64
		exptime string
		want    uint64
		live    bool
	}{
		{10, "0", 0, true}, {10, "-0", 0, true}, {10, "1", 11, true}, {10, "9999999999", 10000000009, true},
		{10, "-1", 10, false}, {10, "-9999999999", 10, false}, {1, "-1", 1, false}, {0, "-1", 1, true}, {0, "1", 1, true}, {0, "0", 0, true},
		{api.MaxTime - 1, "1", api.MaxTime, true}, {api.MaxTime - 1, "2", api.MaxTime, true}, {api.MaxTime, "1", api.MaxTime, false},
		{api.MaxTime, "0", 0, true}, {api.MaxTime, "-1", api.MaxTime, false}, {api.MaxTime - 5, "9999999999", api.MaxTime, true},
	} {
		got := map[bool]string{true: "VALUE a 0 1\r\nx\r\nEND\r\n", false: "END\r\n"}[x.live]
		b := newBoth(t, conf(1), 0, x.time, false)
		b.says(0, "set a 0 "+x.exptime+" 1\r\nx\r\nget a\r\n", "STORED\r\n"+got)
		r, _ := b.record("a")
		c := newBoth(t, conf(1), 0, x.time, false)
		c.says(0, "set a 0 0 1\r\nx\r\ntouch a "+x.exptime+"\r\nget a\r\n", "STORED\r\nTOUCHED\r\n"+got)
		s, _ := c.record("a")
		if r.Expiry != x.want || s.Expiry != x.want || s.Body != "x" {
			t.Errorf("%+v: %+v, %+v", x, r, s)
		}
	}
}

// P24.1: a value is over as soon as its expiry is the time; a touch in time lets it live longer.
func TestOver(t *testing.T) {
	b := start(t, 1)
	b.says(0, "set a 7 2 1\r\nx\r\nset b 0 2 1\r\ny\r\n", "STORED\r\nSTORED\r\n")
	b.ticks(1)
	b.says(0, "get a b\r\ntouch b 2\r\n", "VALUE a 7 1\r\nx\r\nVALUE b 0 1\r\ny\r\nEND\r\nTOUCHED\r\n")
	b.ticks(1)
	b.says(0, "get a b\r\ntouch a 2\r\ndelete a\r\n", "VALUE b 0 1\r\ny\r\nEND\r\nNOT_FOUND\r\nNOT_FOUND\r\n")
	b.ticks(1)
	b.says(0, "get a b\r\n", "END\r\n")
	b.has("b", api.Rec{Key: "b", Stamp: at(11, 0, 0), Kind: api.Value, Expiry: 13, Body: "y"})
}

// P24.1: the stats, in their order; how many keys, not how many gets.
func TestStats(t *testing.T) {
	b := newBoth(t, api.Conf{Nodes: 1, Slots: 5, Bytes: 20, Hints: 1, Sessions: 2, Drift: 0, Keep: 9, Suspect: 1, Wait: 1}, 0, 10, true)
	b.says(0, "set a 0 0 1\r\nx\r\n", api.Busy)
	b.ticks(1)
	b.says(0, "set a 0 0 1\r\nx\r\nset b 0 0 20\r\n"+strings.Repeat("y", 20)+"\r\nget a b c\r\nget a\r\n",
		"STORED\r\nSERVER_ERROR no owner answered\r\nVALUE a 0 1\r\nx\r\nEND\r\nVALUE a 0 1\r\nx\r\nEND\r\n")
	b.says(0, "touch a 0\r\ntouch c 0\r\n", "SERVER_ERROR busy\r\nNOT_FOUND\r\n")
	b.receive("no frame")
	b.says(1, "get\r\nset a 0 0 1\r\nxx\r\ndelete c\r\ndelete d noreply\r\nstats\r\nstats \r\n",
		"CLIENT_ERROR bad command line format\r\nCLIENT_ERROR bad data chunk\r\nNOT_FOUND\r\n"+strings.Repeat(
			"STAT gets 4\r\nSTAT hits 2\r\nSTAT sets 3\r\nSTAT deletes 2\r\nSTAT touches 2\r\nSTAT stored 1\r\nSTAT lost 1\r\nSTAT refused 2\r\nSTAT frames 1\r\nSTAT bad 1\r\nEND\r\n", 2))
}

// P24.2, P24.4: alone, within its bounds: what was used longest ago goes; what is too long was never there.
func TestAloneBounds(t *testing.T) {
	c := conf(1)
	c.Slots, c.Bytes = 2, 10
	b := newBoth(t, c, 0, 10, false)
	b.says(0, "set a 0 0 1\r\nx\r\nset b 0 0 1\r\ny\r\nget a\r\nset c 0 0 1\r\nz\r\n", "STORED\r\nSTORED\r\nVALUE a 0 1\r\nx\r\nEND\r\nSTORED\r\n")
	b.says(0, "get b a\r\nset d 0 0 9\r\n123456789\r\nget a c d\r\n", "VALUE a 0 1\r\nx\r\nEND\r\nSTORED\r\nVALUE d 0 9\r\n123456789\r\nEND\r\n")
	b.says(0, "set d 0 0 10\r\n1234567890\r\nget d\r\n", "SERVER_ERROR no owner answered\r\nVALUE d 0 9\r\n123456789\r\nEND\r\n")
	if z := b.n.Sizes(); z != (api.Sizes{Records: 1, Bytes: 10, Hints: 1, Evicted: 3}) {
		t.Errorf("%+v", z)
	}
	// The hint tells the node itself, at its next tick, that there is something later of d.
	b.ticks(1)
	b.has("d", marker("d", at(10, 4, 0)))
	b.says(0, "get d\r\n", api.End)
	if z := b.n.Sizes(); z != (api.Sizes{Records: 1, Bytes: 1, Evicted: 3}) {
		t.Errorf("%+v", z)
	}
	// To be looked at, or to be deleted in vain, isn't to be used; a delete that is asked about is.
	b.says(0, "set a 0 0 1\r\nx\r\nset b 0 0 1\r\ny\r\n", "STORED\r\nSTORED\r\n")
	b.record("a")
	b.says(0, "set c 0 0 1\r\nz\r\nget a\r\ndelete b\r\nget c b\r\n", "STORED\r\nEND\r\nDELETED\r\nVALUE c 0 1\r\nz\r\nEND\r\n")
}

// P24.2: what is Keep ticks old is there no more.
func TestAlonePurge(t *testing.T) {
	c := conf(1)
	c.Keep = 3
	b := newBoth(t, c, 0, 10, false)
	b.says(0, "set a 0 0 1\r\nx\r\n", "STORED\r\n")
	b.ticks(2)
	b.says(0, "get a\r\n", "VALUE a 0 1\r\nx\r\nEND\r\n")
	b.ticks(1)
	b.says(0, "get a\r\n", "END\r\n")
	b.has("a", api.Rec{})
}

// P7: a write that gets no hint is answered Busy, sends nothing, and leaves records and hints as they are.
func TestNoHint(t *testing.T) {
	c := conf(3)
	c.Hints = 1
	b := newBoth(t, c, 0, 10, false)
	first, second := keyOf(3, 0, 1, 2), keyOf(3, 0, 0, 1)
	b.gets(api.Msg{Kind: api.MsgPush, From: 1, Recs: []api.Rec{value(second, at(9, 0, 1), "old")}})
	if l := b.says(0, "set "+first+" 0 0 1\r\nx\r\n", ""); len(l) != 2 {
		t.Fatalf("%+v", l)
	}
	for _, quiet := range []string{"", " noreply"} {
		want := strings.Repeat(api.Busy, 1-len(quiet)/8)
		b.expect(b.says(1, "set "+second+" 0 0 1"+quiet+"\r\nx\r\n", want))
		b.has(second, value(second, at(9, 0, 1), "old"))
	}
	if l := b.wrote(); len(l) != 1 || b.n.Sizes().Hints != 1 || b.stat("refused") != "2" {
		t.Errorf("%v", l)
	}
	// Of a key that has one, a later one takes its place.
	b.ticks(3)
	b.said(0, api.Lost)
	if l := b.says(0, "set "+first+" 0 0 1\r\ny\r\n", ""); len(l) != 2 || b.n.Sizes().Hints != 1 {
		t.Errorf("%+v", l)
	}
}

// P7: a clock whose last stamp is as great as may be gives no stamp, till its time is above that.
func TestNoStamp(t *testing.T) {
	b := start(t, 2)
	top := value("a", at(12, math.MaxUint32, 1), "x")
	b.gets(api.Msg{Kind: api.MsgPush, From: 1, Recs: []api.Rec{top}})
	for range 3 { // the times 10 to 12
		b.expect(b.says(0, "set a 0 0 1\r\ny\r\nset b 0 0 1 noreply\r\ny\r\n", api.Busy))
		b.ticks(1)
	}
	b.has("a", top)
	if b.n.Sizes().Hints != 0 || len(b.wrote()) != 0 || b.stat("refused") != "6" {
		t.Errorf("%+v", b.n.Sizes())
	}
	b.says(0, "set a 0 0 1\r\ny\r\n", "")
	if l := b.wrote(); len(l) != 1 || l[0].Stamp != at(13, 0, 0) {
		t.Errorf("%v", l)
	}
}
