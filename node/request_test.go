package node

import (
	"strings"
	"testing"

	"tattler/api"
)

// item is an answer to a read: a record, if it has a kind, and whether that is a value that is over.
func item(from uint8, id uint32, key string, r api.Rec, past bool) api.Msg {
	m := api.Msg{Kind: api.MsgItem, From: from, Id: id, Keys: []string{key}, Flag: past}
	if r.Kind != 0 {
		m.Recs = []api.Rec{r}
	}
	return m
}

// wrote is an answer to a write.
func wrote(from uint8, id uint32, r api.Rec, has bool) api.Msg {
	return api.Msg{Kind: api.MsgWrote, From: from, Id: id, Flag: has, Recs: []api.Rec{marker(r.Key, r.Stamp)}}
}

func readMsg(to uint8, id uint32, key string) api.Msg {
	return api.Msg{Kind: api.MsgRead, To: to, Id: id, Keys: []string{key}}
}

func writeMsg(to uint8, id uint32, r api.Rec) api.Msg {
	return api.Msg{Kind: api.MsgWrite, To: to, Id: id, Recs: []api.Rec{r}}
}

// dead lets the node hear that others are Dead.
func (b *both) dead(nodes ...uint8) {
	b.t.Helper()
	for _, i := range nodes {
		b.gets(api.Msg{Kind: api.MsgPush, From: 1, News: []api.News{{Node: i, Member: api.Member{State: api.Dead, Inc: 9}}}})
	}
}

// P24.1: a read of a key that the node itself owns, another one, both of two, or both of others: who is asked, and what is said when all have answered.
func TestReadOwners(t *testing.T) {
	x := func(key, body string) string { return "VALUE " + key + " 0 1\r\n" + body + "\r\n" + api.End }
	// One of one: itself.
	b := start(t, 1)
	b.expect(b.says(0, "get a\r\n", api.End))
	// Itself and another one.
	for _, owners := range [][]uint8{{0, 2}, {2, 0}} {
		key := keyOf(3, 0, owners...)
		b = start(t, 3)
		b.gets(api.Msg{Kind: api.MsgPush, From: 1, Recs: []api.Rec{value(key, at(8, 0, 1), "x")}})
		b.expect(b.says(0, "get "+key+"\r\n", ""), readMsg(2, 1, key))
		b.expect(b.gets(item(2, 1, key, value(key, at(8, 0, 1), "x"), false)))
		b.said(0, x(key, "x"))
		// What the other one has is later: the node itself is behind.
		b.expect(b.says(0, "get "+key+"\r\n", ""), readMsg(2, 2, key))
		b.expect(b.gets(item(2, 2, key, value(key, at(9, 0, 1), "y"), false)))
		b.said(0, x(key, "y"))
		b.has(key, value(key, at(9, 0, 1), "y"))
		// What the other one has is earlier, or nothing: it is sent the best one.
		for i, r := range []api.Rec{value(key, at(7, 0, 1), "y"), tomb(key, at(8, 0, 1)), {}} {
			id := uint32(3 + i)
			b.expect(b.says(0, "get "+key+"\r\n", ""), readMsg(2, id, key))
			b.expect(b.gets(item(2, id, key, r, false)), writeMsg(2, 0, value(key, at(9, 0, 1), "y")))
			b.said(0, x(key, "y"))
		}
	}
	// Two others.
	key := keyOf(3, 0, 2, 1)
	b = start(t, 3)
	b.expect(b.says(0, "get "+key+"\r\n", ""), readMsg(2, 1, key), readMsg(1, 1, key))
	b.expect(b.gets(item(1, 1, key, value(key, at(9, 0, 1), "y"), false)))
	b.said(0, "")
	b.expect(b.gets(item(2, 1, key, value(key, at(8, 0, 1), "x"), false)), writeMsg(2, 0, value(key, at(9, 0, 1), "y")))
	b.said(0, x(key, "y"))
	b.has(key, api.Rec{})
	// One of them, and both, aren't up: the owners are others, then it is the node alone.
	up := b.says(0, "get "+key+"\r\n", "")
	b.expect(up, readMsg(2, 2, key), readMsg(1, 2, key))
	b.ticks(3)
	b.said(0, api.End)
	b.dead(2)
	if l := b.says(0, "get "+key+"\r\n", ""); len(l) != 1 || l[0].To != 1 {
		t.Errorf("%+v", l)
	}
	b.ticks(3)
	b.said(0, api.End)
	b.dead(1)
	b.expect(b.says(0, "get "+key+"\r\n", api.End))
}

// P24.1: each key of a get is a read of its own, in order; a key that stands twice is read twice.
func TestGetInOrder(t *testing.T) {
	b := start(t, 3)
	mine, theirs, both := keyOf(3, 0, 0, 1), keyOf(3, 0, 1, 2), keyOf(3, 1, 1, 2)
	b.expect(b.says(0, "get "+theirs+" "+mine+" "+theirs+" "+both+"\r\nversion\r\n", ""), readMsg(1, 1, theirs), readMsg(2, 1, theirs))
	b.expect(b.gets(item(1, 1, theirs, value(theirs, at(3, 0, 1), "1"), false)))
	b.expect(b.gets(item(2, 1, theirs, value(theirs, at(3, 0, 1), "1"), false)), readMsg(1, 2, mine))
	b.expect(b.gets(item(1, 2, mine, api.Rec{}, false)), readMsg(1, 3, theirs), readMsg(2, 3, theirs))
	b.expect(b.gets(item(2, 3, theirs, value(theirs, at(4, 0, 1), "2"), false)))
	b.said(0, "")
	if z := b.n.Sizes(); z.Asks != 1 || z.Waiting != 1 || b.stat("gets") != "2" || b.stat("hits") != "1" {
		t.Errorf("%+v", z)
	}
	l := kinds(b.ticks(3), api.MsgRead, api.MsgWrite)
	b.expect(l, readMsg(1, 4, both), readMsg(2, 4, both))
	b.said(0, "")
	b.expect(b.gets(item(1, 4, both, value(both, at(5, 0, 1), "3"), false)))
	l = kinds(b.ticks(3), api.MsgRead, api.MsgWrite)
	b.expect(l)
	b.said(0, "VALUE "+theirs+" 0 1\r\n1\r\nVALUE "+theirs+" 0 1\r\n2\r\nVALUE "+both+" 0 1\r\n3\r\n"+api.End+api.Version)
	if b.stat("gets") != "4" || b.stat("hits") != "3" {
		t.Error("gets", b.stat("gets"))
	}
}

// P24.1: a read that waits: ends behind Wait ticks, not sooner, with what was answered till then; who hasn't answered isn't sent anything.
func TestReadWait(t *testing.T) {
	key := keyOf(3, 0, 1, 2)
	for _, wait := range []int{1, 2, 1000} {
		for _, time := range []uint64{10, api.MaxTime - 1, api.MaxTime} {
			c := conf(3)
			c.Wait, c.Suspect = wait, 1000
			b := newBoth(t, c, 0, time, false)
			b.says(0, "get "+key+"\r\n", "")
			for range wait - 1 {
				b.n.Tick(0)
			}
			if got := b.n.Replies(0); got != "" || b.n.Sizes().Asks != 1 {
				t.Fatalf("%d at %d: %q", wait, time, got)
			}
			b.n.Tick(0)
			if got := b.n.Replies(0); got != api.End || b.n.Sizes().Asks != 0 {
				t.Fatalf("%d at %d: %q", wait, time, got)
			}
		}
	}
	b := start(t, 3)
	b.says(0, "get "+key+"\r\n", "")
	b.gets(item(2, 1, key, value(key, at(5, 0, 1), "x"), false))
	l := b.ticks(2)
	b.said(0, "")
	l = append(l, b.ticks(1)...)
	b.said(0, "VALUE "+key+" 0 1\r\nx\r\n"+api.End)
	b.expect(kinds(l, api.MsgWrite, api.MsgRead))
	b.expect(b.gets(item(1, 1, key, value(key, at(6, 0, 1), "y"), false)))
	b.said(0, "")
}

// P24.1: what is no answer to the read: twice, by a node that isn't asked, of another request, of another key, of another kind.
func TestReadStrangers(t *testing.T) {
	key, other := keyOf(4, 0, 1, 2), keyOf(4, 1, 1, 2)
	y := value(key, at(9, 0, 1), "y")
	b := start(t, 4)
	b.says(0, "get "+other+"\r\nget "+key+"\r\n", "")
	b.ticks(3)
	b.said(0, api.End)
	for _, m := range []api.Msg{
		item(1, 1, other, value(other, at(9, 0, 1), "y"), false), // late
		item(1, 1, key, y, false), item(1, 3, key, y, false), item(1, 0, key, y, false),
		item(3, 2, key, y, false), // not asked
		item(1, 2, other, y, false), item(1, 2, key+"x", y, false),
		{Kind: api.MsgItem, From: 1, Id: 2, Recs: []api.Rec{y}},
		{Kind: api.MsgItem, From: 1, Id: 2, Keys: []string{key, key}, Recs: []api.Rec{y}},
		wrote(1, 2, y, true), wrote(2, 2, y, true), wrote(1, 2, marker(key, api.Stamp{}), true), wrote(2, 2, marker(key, api.Stamp{}), true),
	} {
		b.expect(b.gets(m))
		b.said(0, "")
		if b.n.Sizes().Asks != 1 {
			t.Fatalf("%+v", m)
		}
	}
	x := value(key, at(5, 0, 1), "x")
	b.expect(b.gets(item(1, 2, key, x, false)))
	b.expect(b.gets(item(1, 2, key, y, false))) // the first answer counts
	// A record of another key is none.
	b.expect(b.gets(item(2, 2, key, value(other, at(9, 0, 1), "z"), false)), writeMsg(2, 0, x))
	b.said(0, "VALUE "+key+" 0 1\r\nx\r\n"+api.End)
}

// P24.1: a best record that isn't live: of a Value nobody is sent it, of a Tomb and a Marker who is behind is; a value that is over with one, and not with the other, is live.
func TestReadNotLive(t *testing.T) {
	key := keyOf(3, 0, 1, 2)
	over := api.Rec{Key: key, Stamp: at(8, 0, 1), Kind: api.Value, Expiry: 9}
	whole := over
	whole.Body = "x"
	old := value(key, at(7, 0, 1), "o")
	live := "VALUE " + key + " 0 1\r\nx\r\n" + api.End
	for _, x := range []struct {
		one, two         api.Rec
		onePast, twoPast bool
		want             string
		sent             []api.Msg
	}{
		{over, old, true, false, api.End, nil},
		{old, over, false, true, api.End, nil},
		{over, api.Rec{}, true, false, api.End, nil},
		{over, whole, true, false, live, []api.Msg{writeMsg(1, 0, whole)}},
		{whole, over, false, true, live, []api.Msg{writeMsg(2, 0, whole)}},
		{whole, whole, true, false, live, nil},
		{whole, whole, true, true, api.End, nil},
		{tomb(key, at(8, 0, 1)), old, false, false, api.End, []api.Msg{writeMsg(2, 0, tomb(key, at(8, 0, 1)))}},
		{old, marker(key, at(8, 0, 1)), false, false, api.End, []api.Msg{writeMsg(1, 0, marker(key, at(8, 0, 1)))}},
		{api.Rec{}, marker(key, at(8, 0, 1)), true, true, api.End, []api.Msg{writeMsg(1, 0, marker(key, at(8, 0, 1)))}},
		{api.Rec{}, api.Rec{}, false, true, api.End, nil},
		{tomb(key, at(8, 0, 1)), tomb(key, at(8, 0, 1)), false, false, api.End, nil},
	} {
		b := start(t, 3)
		b.says(0, "get "+key+"\r\n", "")
		b.expect(b.gets(item(1, 1, key, x.one, x.onePast)))
		b.expect(b.gets(item(2, 1, key, x.two, x.twoPast)), x.sent...)
		b.said(0, x.want)
	}
	// The node itself has one that is over, and whoever asks is told so without its body.
	mine := keyOf(3, 0, 0, 1)
	b := start(t, 3)
	b.gets(api.Msg{Kind: api.MsgPush, From: 1, Recs: []api.Rec{{Key: mine, Stamp: at(8, 0, 1), Kind: api.Value, Expiry: 9, Body: "x"}}})
	b.says(0, "get "+mine+"\r\n", "")
	b.expect(b.gets(item(1, 1, mine, value(mine, at(7, 0, 1), "y"), false)))
	b.said(0, api.End)
}

// P24.1: a write of a key that the node owns with another one: it has it at once; STORED is said when both have answered, and both have acked the hint.
func TestWriteOwners(t *testing.T) {
	for _, owners := range [][]uint8{{0, 2}, {2, 0}} {
		key := keyOf(3, 0, owners...)
		b := start(t, 3)
		r := api.Rec{Key: key, Stamp: at(10, 0, 0), Kind: api.Value, Flags: 3, Expiry: 15, Body: "x"}
		b.expect(b.says(0, "set "+key+" 3 5 1\r\nx\r\n", ""), writeMsg(2, 1, r))
		b.has(key, r)
		if z := b.n.Sizes(); z.Hints != 1 || z.Asks != 1 {
			t.Errorf("%+v", z)
		}
		b.expect(b.gets(wrote(2, 1, r, true)))
		b.said(0, api.Stored)
		if z := b.n.Sizes(); z.Hints != 0 || z.Asks != 0 || b.stat("stored") != "1" {
			t.Errorf("%+v", z)
		}
		if l := b.wrote(); len(l) != 1 || l[0] != r {
			t.Errorf("%+v", l)
		}
	}
	// Alone nobody else is needed.
	b := start(t, 1)
	b.expect(b.says(0, "set a 0 0 1\r\nx\r\n", api.Stored))
	if z := b.n.Sizes(); z.Hints != 0 || z.Asks != 0 {
		t.Errorf("%+v", z)
	}
}

// P24.1: a write to two others: all, some, none say that they have it; Lost only if none does.
func TestWriteAnswers(t *testing.T) {
	key := keyOf(3, 0, 2, 1)
	r := value(key, at(10, 0, 0), "x")
	for _, x := range []struct {
		answers []bool // of 2, then of 1; as many as come ahead of the end of Wait
		want    string
		hints   int
	}{
		{[]bool{true, true}, api.Stored, 0}, {[]bool{true, false}, api.Stored, 1}, {[]bool{false, true}, api.Stored, 1},
		{[]bool{false, false}, api.Lost, 1}, {[]bool{true}, api.Stored, 1}, {[]bool{false}, api.Lost, 1}, {nil, api.Lost, 1},
	} {
		for _, quiet := range []string{"", " noreply"} {
			b := start(t, 3)
			b.expect(b.says(0, "set "+key+" 0 0 1"+quiet+"\r\nx\r\n", ""), writeMsg(2, 1, r), writeMsg(1, 1, r))
			for i, has := range x.answers {
				b.said(0, "")
				b.expect(b.gets(wrote(uint8(2-i), 1, r, has)))
			}
			if len(x.answers) < 2 {
				b.ticks(2)
				b.said(0, "")
				b.ticks(1)
			}
			b.said(0, x.want[:len(x.want)*(1-len(quiet)/8)])
			if z := b.n.Sizes(); z.Asks != 0 || z.Hints != x.hints {
				t.Errorf("%v: %+v", x, z)
			}
			if stored := b.stat("stored") == "1"; stored != (x.want == api.Stored) || stored == (b.stat("lost") == "1") {
				t.Errorf("%v", x)
			}
			// What comes behind its end is late.
			b.expect(b.gets(wrote(1, 1, r, true)))
			b.expect(b.gets(wrote(2, 1, r, true)))
			if z := b.n.Sizes(); z.Hints != x.hints {
				t.Errorf("%v: %+v", x, z)
			}
			b.said(0, "")
		}
	}
}

// P24.1: what is no answer to the write: by a node that isn't asked, of another request, key, stamp or kind, a second one.
func TestWriteStrangers(t *testing.T) {
	key, other := keyOf(4, 0, 1, 2), keyOf(4, 1, 1, 2)
	r := value(key, at(10, 0, 0), "x")
	b := start(t, 4)
	b.says(0, "set "+key+" 0 0 1\r\nx\r\n", "")
	two := wrote(1, 1, r, true)
	two.Recs = append(two.Recs, two.Recs...)
	for _, m := range []api.Msg{
		wrote(3, 1, r, true), wrote(1, 0, r, true), wrote(1, 2, r, true), two,
		wrote(1, 1, value(other, r.Stamp, ""), true), wrote(1, 1, value(key, at(10, 1, 0), ""), true),
		wrote(1, 1, value(key, at(9, 0, 0), ""), true), wrote(1, 1, value(key, at(10, 0, 1), ""), true),
		{Kind: api.MsgWrote, From: 1, Id: 1, Flag: true}, item(1, 1, key, r, false), item(2, 1, key, r, false), item(1, 1, key, api.Rec{}, true),
	} {
		b.expect(b.gets(m))
		if z := b.n.Sizes(); z.Asks != 1 || z.Hints != 1 {
			t.Fatalf("%+v", m)
		}
	}
	b.expect(b.gets(wrote(1, 1, r, false)))
	b.expect(b.gets(wrote(1, 1, r, true))) // the first answer counts
	b.expect(b.gets(wrote(2, 1, r, false)))
	b.said(0, api.Lost)
	if z := b.n.Sizes(); z.Asks != 0 || z.Hints != 1 {
		t.Errorf("%+v", z)
	}
}

// P24.1: delete and touch read first; then they write a Tomb, or what was read with a new expiry.
func TestChange(t *testing.T) {
	key := keyOf(3, 0, 1, 2)
	was := api.Rec{Key: key, Stamp: at(8, 0, 1), Kind: api.Value, Flags: 6, Expiry: 40, Body: "x"}
	later := was
	later.Stamp, later.Expiry = at(11, 0, 0), 16
	for _, x := range []struct {
		say, done string
		rec       api.Rec
		hint      api.Rec
	}{
		{"delete " + key, api.Deleted, tomb(key, at(11, 0, 0)), tomb(key, at(11, 0, 0))},
		{"touch " + key + " 5", api.Touched, later, marker(key, at(11, 0, 0))},
	} {
		for _, quiet := range []string{"", " noreply"} {
			done := x.done[:len(x.done)*(1-len(quiet)/8)]
			b := start(t, 3)
			b.expect(b.says(0, x.say+quiet+"\r\n", ""), readMsg(1, 1, key), readMsg(2, 1, key))
			b.expect(b.gets(item(1, 1, key, was, false)))
			b.ticks(1)
			// What is mended goes out ahead of what is written.
			b.expect(b.gets(item(2, 1, key, api.Rec{}, false)), writeMsg(2, 0, was), writeMsg(1, 2, x.rec), writeMsg(2, 2, x.rec))
			l := kinds(b.ticks(1), api.MsgHint)
			b.expect(l, api.Msg{Kind: api.MsgHint, To: 1, Recs: []api.Rec{x.hint}}, api.Msg{Kind: api.MsgHint, To: 2, Recs: []api.Rec{x.hint}})
			b.gets(wrote(1, 2, x.rec, true))
			b.said(0, "")
			b.gets(wrote(2, 2, x.rec, true))
			b.said(0, done)
			if l := b.wrote(); len(l) != 1 || l[0] != x.rec || b.stat("stored") != "1" || b.stat("gets") != "0" {
				t.Errorf("%+v", l)
			}
			// Lost, if nobody has it.
			b.says(0, x.say+quiet+"\r\n", "")
			b.gets(item(1, 3, key, was, false))
			b.gets(item(2, 3, key, was, false))
			b.ticks(3)
			b.said(0, api.Lost[:len(api.Lost)*(1-len(quiet)/8)])
			// Nothing is written of what isn't live.
			for i, r := range []api.Rec{{}, tomb(key, at(9, 0, 1)), marker(key, at(9, 0, 1)), was} {
				b.says(0, x.say+quiet+"\r\n", "")
				id := uint32(5 + i)
				b.gets(item(1, id, key, r, true))
				b.expect(b.gets(item(2, id, key, r, true)))
				b.said(0, api.NotFound[:len(api.NotFound)*(1-len(quiet)/8)])
			}
			if l := b.wrote(); len(l) != 1 {
				t.Errorf("%+v", l)
			}
		}
	}
}

// P7, P24.1: a touch or a delete that finds its value, and gets no hint.
func TestChangeBusy(t *testing.T) {
	c := conf(3)
	c.Hints = 1
	full, key := keyOf(3, 0, 1, 2), keyOf(3, 1, 1, 2)
	for _, say := range []string{"touch " + key + " 1\r\n", "delete " + key + "\r\n"} {
		b := newBoth(t, c, 0, 10, false)
		b.says(1, "set "+full+" 0 0 0\r\n\r\n", "")
		b.says(0, say+"version\r\n", "")
		b.gets(item(1, 2, key, value(key, at(9, 0, 1), "x"), false))
		b.expect(b.gets(item(2, 2, key, value(key, at(9, 0, 1), "x"), false)))
		b.said(0, api.Busy+api.Version)
		if len(b.wrote()) != 1 {
			t.Error(say)
		}
	}
}

// P24.1: sessions don't wait for one another; requests that end at one tick end in the order in which they began.
func TestTwoSessions(t *testing.T) {
	b := start(t, 3)
	one, two := keyOf(3, 0, 1, 2), keyOf(3, 1, 1, 2)
	b.says(1, "get "+one+"\r\nset "+one+" 0 0 1\r\n1\r\n", "")
	b.says(0, "get "+two+"\r\nset "+two+" 0 0 1\r\n2\r\n", "")
	if z := b.n.Sizes(); z.Asks != 2 || z.Waiting != 2 {
		t.Errorf("%+v", z)
	}
	l := kinds(b.ticks(3), api.MsgWrite)
	x, y := value(one, at(13, 0, 0), "1"), value(two, at(13, 1, 0), "2")
	b.expect(l, writeMsg(1, 3, x), writeMsg(2, 3, x), writeMsg(1, 4, y), writeMsg(2, 4, y))
	b.gets(wrote(1, 4, y, true))
	b.gets(wrote(2, 4, y, true))
	b.said(0, api.End+api.Stored)
	b.said(1, api.End)
	b.gets(wrote(2, 3, x, true))
	b.gets(wrote(1, 3, x, true))
	b.said(1, api.Stored)
}

// P24.1: the owners are those among who is up when the request begins.
func TestOwnersUp(t *testing.T) {
	b := start(t, 3)
	key := keyOf(3, 0, 1, 2)
	b.dead(1)
	l := b.says(0, "set "+key+" 0 0 1\r\nx\r\n", "")
	b.expect(l, writeMsg(2, 1, value(key, at(10, 0, 0), "x")))
	b.has(key, value(key, at(10, 0, 0), "x"))
	// Who is suspected is up.
	b.gets(api.Msg{Kind: api.MsgPush, From: 2, News: []api.News{{Node: 1, Member: api.Member{State: api.Suspect, Inc: 10}}}})
	if l := b.says(1, "get "+key+"\r\n", ""); len(l) != 2 || l[0].To != 1 || l[1].To != 2 {
		t.Errorf("%+v", l)
	}
	// Who has left isn't.
	b.gets(api.Msg{Kind: api.MsgPush, From: 2, News: []api.News{{Node: 1, Member: api.Member{State: api.Left, Inc: 10}}}})
	b.ticks(3)
	if l := b.says(1, "get "+key+"\r\n", api.End); len(l) != 1 || l[0].To != 2 || !strings.HasPrefix(key, l[0].Keys[0]) {
		t.Errorf("%+v", l)
	}
}
