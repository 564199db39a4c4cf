package node

import (
	"fmt"
	"slices"
	"strings"
	"testing"

	"tattler/api"
	"tattler/mix"
	"tattler/rec"
	"tattler/ring"
)

func alive(inc uint32) api.Member   { return api.Member{State: api.Alive, Inc: inc} }
func suspect(inc uint32) api.Member { return api.Member{State: api.Suspect, Inc: inc} }
func isDead(inc uint32) api.Member  { return api.Member{State: api.Dead, Inc: inc} }

func views(l ...api.Member) []api.News {
	var news []api.News
	for i, m := range l {
		news = append(news, api.News{Node: uint8(i), Member: m})
	}
	return news
}

// P24.1: a ping is answered about the node itself, with the whole view behind its news.
func TestPing(t *testing.T) {
	b := start(t, 3)
	for _, x := range []struct{ news, want []api.News }{
		{nil, views(alive(0), alive(0), alive(0))},
		{[]api.News{{Node: 2, Member: suspect(0)}}, views(alive(0), alive(0), suspect(0))},
		{[]api.News{{Node: 0, Member: isDead(4)}, {Node: 1, Member: alive(1)}}, views(alive(5), alive(1), suspect(0))},
		{[]api.News{{Node: 3, Member: isDead(4)}, {Node: 2, Member: alive(0)}, {Node: 63, Member: alive(9)}}, views(alive(5), alive(1), suspect(0))},
		{[]api.News{{Node: 0, Member: alive(5)}, {Node: 0, Member: suspect(4)}}, views(alive(5), alive(1), suspect(0))},
		{[]api.News{{Node: 0, Member: suspect(api.MaxInc)}}, views(alive(api.MaxInc), alive(1), suspect(0))},
	} {
		b.expect(b.gets(api.Msg{Kind: api.MsgPing, From: 1, News: x.news}), api.Msg{Kind: api.MsgAck, To: 1, News: x.want})
		// What else stands in it plays no part.
		odd := api.Msg{Kind: api.MsgPing, From: 2, Id: 7, Target: 1, Range: 3, Flag: true, Keys: []string{"a"}, Recs: []api.Rec{value("a", at(10, 0, 1), "x")}, Digests: []uint64{1}}
		b.expect(b.gets(odd), api.Msg{Kind: api.MsgAck, To: 2, News: x.want})
		b.has("a", api.Rec{})
	}
}

// P24.1: a node that is asked about itself answers like to a ping; about another one it pings that, and tells whoever asked when it answers, once.
func TestReq(t *testing.T) {
	b := newBoth(t, conf(5), 2, 10, false)
	fresh := views(alive(0), alive(0), alive(0), alive(0), alive(0))
	b.expect(b.gets(api.Msg{Kind: api.MsgReq, From: 1, To: 2, Target: 2}), api.Msg{Kind: api.MsgAck, To: 1, Target: 2, News: fresh})
	ping := func(to uint8) api.Msg { return api.Msg{Kind: api.MsgPing, To: to, News: fresh} }
	for _, from := range []uint8{4, 1, 4, 0} {
		b.expect(b.gets(api.Msg{Kind: api.MsgReq, From: from, To: 2, Target: 3}), ping(3))
	}
	b.expect(b.gets(api.Msg{Kind: api.MsgReq, From: 1, To: 2, Target: 0}), ping(0))
	told := func(to, about uint8) api.Msg { return api.Msg{Kind: api.MsgAck, To: to, Target: about} }
	tells := func(from, about uint8) []api.Msg {
		return b.gets(api.Msg{Kind: api.MsgAck, From: from, To: 2, Target: about})
	}
	b.expect(tells(4, 4)) // about whom nobody asked
	b.expect(tells(3, 3), told(0, 3), told(1, 3), told(4, 3))
	b.expect(tells(3, 3))
	// Whoever tells it, and who asks about itself.
	b.expect(tells(4, 0), told(1, 0))
	b.expect(b.gets(api.Msg{Kind: api.MsgReq, From: 3, To: 2, Target: 3}), ping(3))
	b.expect(tells(3, 3), told(3, 3))
	// Of a node that there isn't nothing is known.
	for _, x := range []uint8{5, 6, 63} {
		b.expect(b.gets(api.Msg{Kind: api.MsgReq, From: 1, To: 2, Target: x}))
		b.expect(tells(1, x))
	}
}

// P24.1: a write: what is told of it, and what the node has then.
func TestWrite(t *testing.T) {
	long := strings.Repeat("b", 1024)
	had := value("a", at(8, 1, 1), "m")
	for _, x := range []struct {
		name string
		r    api.Rec
		flag bool
		has  api.Rec // of its key, behind it
	}{
		{"new", value("b", at(9, 0, 2), "x"), true, value("b", at(9, 0, 2), "x")},
		{"later", value("a", at(8, 2, 0), "x"), true, value("a", at(8, 2, 0), "x")},
		{"later tomb", tomb("a", at(8, 1, 2)), true, tomb("a", at(8, 1, 2))},
		{"equal", had, true, had},
		{"of its stamp, ahead", tomb("a", at(8, 1, 1)), true, had},
		{"of its stamp, ahead by the body", value("a", at(8, 1, 1), "l"), true, had},
		{"of its stamp, behind by the body", value("a", at(8, 1, 1), "n"), true, value("a", at(8, 1, 1), "n")},
		{"earlier", value("a", at(8, 0, 9), "x"), true, had},
		{"old, and one is there", value("a", at(0, 0, 1), "x"), true, had},
		{"just old", value("b", at(7, 0, 1), "x"), false, api.Rec{}},
		{"not yet old", value("b", at(8, 0, 1), "x"), true, value("b", at(8, 0, 1), "x")},
		{"as far ahead as may be", marker("b", at(15, 9, 1)), true, marker("b", at(15, 9, 1))},
		{"too far ahead", value("b", at(16, 0, 1), "x"), false, api.Rec{}},
		{"too far ahead, and one is there", tomb("a", at(16, 0, 1)), false, had},
		{"too long", value("b", at(9, 0, 1), long), false, api.Rec{}},
		{"too long, and one is there", value("a", at(9, 0, 1), long), false, had},
	} {
		c := conf(3)
		c.Bytes, c.Keep = 1024, 3
		for _, id := range []uint32{0, 1, 7, 1<<32 - 1} {
			b := newBoth(t, c, 0, 10, false)
			b.expect(b.gets(api.Msg{Kind: api.MsgPush, From: 1, Recs: []api.Rec{had}}))
			want := []api.Msg{{Kind: api.MsgWrote, To: 2, Id: id, Flag: x.flag, Recs: []api.Rec{marker(x.r.Key, x.r.Stamp)}}}
			if id == 0 {
				want = nil
			}
			t.Log(x.name)
			b.expect(b.gets(api.Msg{Kind: api.MsgWrite, From: 2, Id: id, Recs: []api.Rec{x.r}}), want...)
			b.has(x.r.Key, x.has)
			// The clock has seen what isn't too far ahead: its next stamp stands behind that.
			b.says(0, "set z 0 0 0\r\n\r\n", b.n.Replies(0))
			if l := b.wrote(); len(l) != 1 || x.r.Stamp.Phys <= 15 && !ahead(x.r.Stamp, l[0].Stamp) || x.r.Stamp.Phys > 15 && l[0].Stamp.Phys != 10 {
				t.Errorf("%s: %v", x.name, l)
			}
		}
	}
	b := start(t, 3)
	two := []api.Rec{value("a", at(9, 0, 1), "x"), value("b", at(9, 0, 1), "y")}
	b.expect(b.gets(api.Msg{Kind: api.MsgWrite, From: 2, Id: 3, Recs: two}))
	b.expect(b.gets(api.Msg{Kind: api.MsgWrite, From: 2, Id: 3}))
	b.has("a", api.Rec{})
}

// P24.1, P2: behind an eviction a record that isn't behind the floor is refused as old: who hints it is told that it is covered, who writes it that it isn't there.
func TestFloor(t *testing.T) {
	c := conf(3)
	c.Slots = 1
	b := newBoth(t, c, 0, 10, false)
	push := func(r api.Rec) {
		b.expect(b.gets(api.Msg{Kind: api.MsgPush, From: 1, Recs: []api.Rec{r}}))
	}
	push(value("a", at(8, 0, 1), "x"))
	push(value("b", at(7, 0, 1), "y"))
	b.has("a", api.Rec{})
	m := marker("a", at(8, 0, 1))
	b.expect(b.gets(api.Msg{Kind: api.MsgHint, From: 1, Recs: []api.Rec{m}}), api.Msg{Kind: api.MsgHinted, To: 1, Recs: []api.Rec{m}})
	b.expect(b.gets(api.Msg{Kind: api.MsgWrite, From: 1, Id: 5, Recs: []api.Rec{m}}), api.Msg{Kind: api.MsgWrote, To: 1, Id: 5, Recs: []api.Rec{m}})
	b.has("a", api.Rec{})
	push(value("a", at(8, 1, 1), "x"))
	b.has("a", value("a", at(8, 1, 1), "x"))
}

// P24.1: a read is answered with what there is; of a value that is over without its body; to be asked is to be used.
func TestRead(t *testing.T) {
	over := api.Rec{Key: "a", Stamp: at(8, 0, 1), Kind: api.Value, Flags: 3, Expiry: 10, Body: "x"}
	bare, later, empty := over, over, over
	bare.Body, later.Expiry, empty.Body = "", 11, ""
	for _, x := range []struct {
		has  api.Rec
		past bool
		want api.Rec
	}{
		{api.Rec{}, false, api.Rec{}}, {later, false, later}, {over, true, bare}, {empty, true, empty},
		{tomb("a", at(8, 0, 1)), false, tomb("a", at(8, 0, 1))}, {marker("a", at(8, 0, 1)), false, marker("a", at(8, 0, 1))},
		{value("a", at(8, 0, 1), ""), false, value("a", at(8, 0, 1), "")},
	} {
		for _, id := range []uint32{0, 1, 9} {
			b := start(t, 3)
			if x.has.Kind != 0 {
				b.gets(api.Msg{Kind: api.MsgPush, From: 1, Recs: []api.Rec{x.has}})
			}
			want := item(0, id, "a", x.want, x.past)
			want.To = 2
			b.expect(b.gets(api.Msg{Kind: api.MsgRead, From: 2, Id: id, Keys: []string{"a"}}), want)
			b.has("a", x.has)
			b.expect(b.gets(api.Msg{Kind: api.MsgRead, From: 2, Id: id}))
			b.expect(b.gets(api.Msg{Kind: api.MsgRead, From: 2, Id: id, Keys: []string{"a", "b"}}))
		}
	}
	c := conf(3)
	c.Slots = 2
	for _, use := range []struct {
		m    api.Msg
		used bool
	}{
		{api.Msg{Kind: api.MsgRead, From: 2, Keys: []string{"a"}}, true},
		{api.Msg{Kind: api.MsgPull, From: 2, Keys: []string{"a"}}, false},
		{api.Msg{Kind: api.MsgHint, From: 2, Recs: []api.Rec{value("a", at(8, 0, 1), "x")}}, false},
		{api.Msg{Kind: api.MsgWrite, From: 2, Id: 1, Recs: []api.Rec{marker("a", at(8, 0, 0))}}, false},
		{api.Msg{Kind: api.MsgSummary, From: 2, Range: uint8(mix.Range("a"))}, false},
	} {
		b := newBoth(t, c, 0, 10, false)
		b.gets(api.Msg{Kind: api.MsgPush, From: 1, Recs: []api.Rec{value("a", at(8, 0, 1), "x"), value("b", at(9, 0, 1), "y")}})
		b.gets(use.m)
		b.gets(api.Msg{Kind: api.MsgPush, From: 1, Recs: []api.Rec{value("c", at(10, 0, 1), "z")}})
		if _, some := b.record("a"); some != use.used {
			t.Errorf("%+v: %v", use.m, some)
		}
	}
}

// P24.1: of a hint each record is taken; those that the node covers are told, be they none.
func TestHint(t *testing.T) {
	b := start(t, 3)
	long := strings.Repeat("k", 250)
	c := conf(3)
	c.Bytes = 100
	short := newBoth(t, c, 0, 10, false)
	b.gets(api.Msg{Kind: api.MsgPush, From: 1, Recs: []api.Rec{value("v", at(9, 0, 1), "x"), tomb("w", at(9, 0, 1))}})
	l := []api.Rec{
		marker("a", at(9, 0, 1)), tomb("b", at(15, 0, 1)), marker("v", at(9, 0, 1)), tomb("v", at(8, 0, 1)), marker("w", at(9, 0, 2)),
		marker("x", at(16, 0, 1)), tomb("v", at(17, 0, 1)),
	}
	b.expect(b.gets(api.Msg{Kind: api.MsgHint, From: 1, Recs: l}), api.Msg{Kind: api.MsgHinted, To: 1, Recs: l[:5]})
	b.has("a", l[0])
	b.has("b", l[1])
	b.has("v", value("v", at(9, 0, 1), "x"))
	b.has("w", l[4])
	b.has("x", api.Rec{})
	b.expect(b.gets(api.Msg{Kind: api.MsgHint, From: 1, Recs: l[5:]}), api.Msg{Kind: api.MsgHinted, To: 1})
	b.expect(b.gets(api.Msg{Kind: api.MsgHint, From: 2}), api.Msg{Kind: api.MsgHinted, To: 2})
	short.expect(short.gets(api.Msg{Kind: api.MsgHint, From: 1, Recs: []api.Rec{marker(long, at(9, 0, 1))}}), api.Msg{Kind: api.MsgHinted, To: 1})
	// What is old is covered.
	b.ticks(95)
	old := []api.Rec{marker("o", at(5, 0, 1)), marker("n", at(6, 0, 1))}
	b.expect(b.gets(api.Msg{Kind: api.MsgHint, From: 1, Recs: old}), api.Msg{Kind: api.MsgHinted, To: 1, Recs: old})
	b.has("o", api.Rec{})
	b.has("n", old[1])
}

// P24.1: who tells that it covers a hint has acked it; when all owners have, it is gone.
func TestHinted(t *testing.T) {
	key := keyOf(4, 0, 1, 2)
	r := marker(key, at(10, 0, 0))
	for _, x := range []struct {
		m    api.Msg
		left int // hints, once 1 has acked it, too
	}{
		{api.Msg{From: 2, Recs: []api.Rec{r}}, 0},
		{api.Msg{From: 2, Recs: []api.Rec{tomb(key, at(10, 0, 0))}}, 0},
		{api.Msg{From: 2, Recs: []api.Rec{marker(key, at(12, 0, 3))}}, 0},
		{api.Msg{From: 2, Recs: []api.Rec{marker("q", at(1, 0, 0)), r}}, 0},
		{api.Msg{From: 2, Recs: []api.Rec{marker(key, at(9, 9, 0))}}, 1},
		{api.Msg{From: 2, Recs: []api.Rec{marker("q", at(10, 0, 0))}}, 1},
		{api.Msg{From: 2}, 1},
		{api.Msg{From: 3, Recs: []api.Rec{r}}, 1},
		{api.Msg{From: 1, Recs: []api.Rec{r}}, 1},
	} {
		b := newBoth(t, conf(4), 0, 10, false)
		b.says(0, "set "+key+" 0 0 1\r\nx\r\n", "")
		x.m.Kind = api.MsgHinted
		b.expect(b.gets(x.m))
		if z := b.n.Sizes(); z.Hints != 1 || z.Asks != 1 {
			t.Errorf("%+v: %+v", x, z)
		}
		b.expect(b.gets(api.Msg{Kind: api.MsgHinted, From: 1, Recs: []api.Rec{r}}))
		if z := b.n.Sizes(); z.Hints != x.left || z.Asks != 1 {
			t.Errorf("%+v: %+v", x, z)
		}
	}
}

// P24.1: a root that is the own one is no news; of another one all digests are told.
func TestRoot(t *testing.T) {
	b := start(t, 3)
	r := value("a", at(9, 0, 1), "x")
	empty := make([]uint64, 64)
	b.expect(b.gets(api.Msg{Kind: api.MsgRoot, From: 1, Digests: []uint64{0}}))
	b.expect(b.gets(api.Msg{Kind: api.MsgRoot, From: 1, Digests: []uint64{1}}), api.Msg{Kind: api.MsgLeaves, To: 1, Digests: empty})
	b.gets(api.Msg{Kind: api.MsgPush, From: 1, Recs: []api.Rec{r}})
	full := slices.Clone(empty)
	full[mix.Range("a")] = rec.Digest(r)
	row := slices.Clone(full)
	for len(row) > 1 {
		for i := range len(row) / 2 {
			row[i] = mix.Two(row[2*i], row[2*i+1])
		}
		row = row[:len(row)/2]
	}
	b.expect(b.gets(api.Msg{Kind: api.MsgRoot, From: 2, Digests: row}))
	for _, other := range []uint64{0, 1, row[0] + 1, row[0] ^ 1<<63} {
		b.expect(b.gets(api.Msg{Kind: api.MsgRoot, From: 2, Digests: []uint64{other}}), api.Msg{Kind: api.MsgLeaves, To: 2, Digests: full})
	}
	b.expect(b.gets(api.Msg{Kind: api.MsgRoot, From: 2}))
	b.expect(b.gets(api.Msg{Kind: api.MsgRoot, From: 2, Digests: []uint64{1, 2}}))
	l := kinds(b.ticks(1), api.MsgRoot)
	b.expect(l, api.Msg{Kind: api.MsgRoot, To: 1, Digests: row})
}

// P24.1: of leaves the first two ranges that differ are swept with the sender.
func TestLeaves(t *testing.T) {
	b := start(t, 3)
	r := value("a", at(9, 0, 1), "x")
	k := mix.Range("a")
	b.gets(api.Msg{Kind: api.MsgPush, From: 1, Recs: []api.Rec{r}})
	seen := []api.Seen{{Key: "a", Stamp: r.Stamp, Kind: api.Value}}
	summary := func(k int) api.Msg {
		m := api.Msg{Kind: api.MsgSummary, To: 2, Range: uint8(k)}
		if k == mix.Range("a") {
			m.Seen = seen
		}
		return m
	}
	for _, differ := range [][]int{{}, {0}, {63}, {k}, {0, 63}, {k, 63}, {5, 6, 7}, {0, 1, 2, 3, 62, 63}} {
		mine := make([]uint64, 64)
		mine[k] = rec.Digest(r)
		for _, i := range differ {
			mine[i] ^= 1 << 40
		}
		var want []api.Msg
		for _, i := range differ[:min(2, len(differ))] {
			want = append(want, summary(i))
		}
		b.expect(b.gets(api.Msg{Kind: api.MsgLeaves, From: 2, Digests: mine}), want...)
	}
	for _, many := range []int{0, 1, 63, 65, 4096} {
		b.expect(b.gets(api.Msg{Kind: api.MsgLeaves, From: 2, Digests: make([]uint64, many)}))
	}
}

// inRange are keys of one range, of these owners among three.
func inRange(k, many int, owners ...uint8) []string {
	var l []string
	for i := 0; len(l) < many; i++ {
		key := fmt.Sprint("r", i)
		if mix.Range(key) == k && slices.Equal(slices.Sorted(slices.Values(ring.Owners(key, []uint8{0, 1, 2}))), owners) {
			l = append(l, key)
		}
	}
	return l
}

// P24.1: of a summary what the sender owns, and hasn't, is pushed, and what the node owns, and hasn't, is pulled.
func TestSummary(t *testing.T) {
	const k = 17
	both, his, mine := inRange(k, 3, 0, 1), inRange(k, 2, 1, 2), inRange(k, 2, 0, 2)
	b := start(t, 3)
	has := func(key string) api.Rec { return value(key, at(8, 0, 1), "x") }
	seen := func(key string, s api.Stamp, kind uint8) api.Seen { return api.Seen{Key: key, Stamp: s, Kind: kind} }
	all := []api.Rec{has(both[0]), has(both[1]), has(his[0]), has(mine[0])}
	b.gets(api.Msg{Kind: api.MsgPush, From: 1, Recs: all})
	sum := func(from uint8, l ...api.Seen) api.Msg {
		return api.Msg{Kind: api.MsgSummary, From: from, Range: k, Seen: l}
	}
	push := func(to uint8, keys ...string) api.Msg {
		m := api.Msg{Kind: api.MsgPush, To: to}
		for _, key := range slices.Sorted(slices.Values(keys)) {
			m.Recs = append(m.Recs, has(key))
		}
		return m
	}
	pull := func(to uint8, keys ...string) api.Msg {
		return api.Msg{Kind: api.MsgPull, To: to, Keys: slices.Sorted(slices.Values(keys))}
	}
	same, behind, tied, after := at(8, 0, 1), at(7, 9, 9), at(8, 0, 1), at(8, 0, 2)
	// Who has nothing is sent what it owns.
	b.expect(b.gets(sum(1)), push(1, both[0], both[1], his[0]))
	b.expect(b.gets(sum(2)), push(2, his[0], mine[0]))
	// Of what is known on both sides: the same, behind by the stamp, behind by the kind, ahead.
	b.expect(b.gets(sum(1, seen(both[0], same, 3), seen(both[1], same, 3), seen(his[0], same, 3))))
	b.expect(b.gets(sum(1, seen(both[0], behind, 3), seen(both[1], tied, 2), seen(his[0], after, 1))), push(1, both[0], both[1]))
	b.expect(b.gets(sum(1, seen(both[1], after, 1), seen(both[0], same, 3), seen(his[0], behind, 3), seen(both[2], behind, 2))),
		push(1, his[0]), pull(1, both[1], both[2]))
	// What only others own isn't asked for; what the sender doesn't own isn't sent.
	b.expect(b.gets(sum(2, seen(his[0], after, 3), seen(his[1], after, 3), seen(mine[0], same, 3))))
	b.expect(b.gets(sum(2, seen(mine[1], behind, 1), seen(his[0], same, 3), seen(mine[1], after, 1), seen(mine[0], after, 3), seen(mine[1], after, 2))), pull(2, mine[0], mine[1]))
	// Another range: nothing of this one is sent; what the node has isn't asked for.
	off := sum(1, seen(both[0], same, 3), seen(both[1], behind, 3), seen(both[2], same, 3), seen(mine[0], after, 3))
	off.Range = 18
	b.expect(b.gets(off), pull(1, both[2], mine[0]))
	// Owners go by who is up, with the news that came along.
	b.expect(b.gets(api.Msg{Kind: api.MsgSummary, From: 1, Range: k, News: []api.News{{Node: 2, Member: isDead(0)}}, Seen: []api.Seen{seen(his[1], same, 3)}}),
		push(1, both[0], both[1], his[0], mine[0]), pull(1, his[1]))
}

// P24.1: what is pulled is pushed, as far as it is there, whoever owns it; what is pushed is taken.
func TestPullPush(t *testing.T) {
	b := start(t, 3)
	l := []api.Rec{value("a", at(8, 0, 1), "x"), tomb("b", at(9, 0, 1)), marker("c", at(15, 0, 1)), value("d", at(16, 0, 1), "far"), value("a", at(7, 0, 1), "old")}
	b.expect(b.gets(api.Msg{Kind: api.MsgPush, From: 1, Recs: l}))
	b.expect(b.gets(api.Msg{Kind: api.MsgPush, From: 1}))
	b.has("a", l[0])
	b.has("d", api.Rec{})
	push := func(l ...api.Rec) api.Msg { return api.Msg{Kind: api.MsgPush, To: 2, Recs: l} }
	b.expect(b.gets(api.Msg{Kind: api.MsgPull, From: 2, Keys: []string{"c", "d", "a", "q", "b"}}), push(l[2], l[0], l[1]))
	b.expect(b.gets(api.Msg{Kind: api.MsgPull, From: 2, Keys: []string{"b", "b", "c", "b"}}), push(l[1], l[2]))
	b.expect(b.gets(api.Msg{Kind: api.MsgPull, From: 2, Keys: []string{"q"}}))
	b.expect(b.gets(api.Msg{Kind: api.MsgPull, From: 2}))
	if n := len(b.n.sessions); n != 2 {
		t.Error(n)
	}
}

// P24.1: what is more than one frame holds goes in several ones, all of it, in order.
func TestLongPush(t *testing.T) {
	c := conf(2)
	c.Slots, c.Bytes = 1024, 1<<20
	n, _ := New(c, 0, 10, false)
	b := &both{t: t, n: n, codec: start(t, 1).codec, p: newPeer(c, 0, 10, false), conf: c}
	const k = 5
	var all []api.Rec
	for i := 0; len(all) < 1000; i++ {
		key := fmt.Sprintf("long-%06d", i)
		if mix.Range(key) == k {
			r := value(key, at(9, uint32(len(all)), 1), strings.Repeat("z", 1024))
			r.Flags, r.Expiry = 1<<31, 1<<40
			all = append(all, r)
		}
	}
	for i := range 10 {
		s, _ := b.codec.Pack(api.Msg{Kind: api.MsgPush, From: 1, Recs: all[100*i : 100*i+100]})
		n.Receive(s)
	}
	summary, _ := b.codec.Pack(api.Msg{Kind: api.MsgSummary, From: 1, Range: k})
	var keys []string
	for _, r := range all {
		keys = append(keys, r.Key)
	}
	pull, _ := b.codec.Pack(api.Msg{Kind: api.MsgPull, From: 1, Keys: append(keys, keys...)})
	for _, s := range []string{summary, pull} {
		var got []api.Rec
		l := b.msgs(n.Receive(s))
		for _, m := range l {
			if m.Kind != api.MsgPush || len(m.Recs) == 0 {
				t.Fatalf("%d, %d", m.Kind, len(m.Recs))
			}
			got = append(got, m.Recs...)
		}
		if len(l) != 2 || !slices.Equal(got, all) {
			t.Errorf("%d frames, %d records", len(l), len(got))
		}
	}
}

// P24.1: what is no message for the node changes nothing but the counts frames and bad, and has no answer.
func TestNoMessage(t *testing.T) {
	b := newBoth(t, conf(3), 1, 10, false)
	news := []api.News{{Node: 2, Member: isDead(3)}}
	sound := api.Msg{Kind: api.MsgPush, From: 0, To: 1, News: news, Recs: []api.Rec{value("a", at(9, 0, 0), "x")}}
	pack := func(m api.Msg) string { s, _ := b.codec.Pack(m); return s }
	s := pack(sound)
	wrong := []string{"", "x", s[:len(s)-1], s + "\x00", strings.Repeat("\x00", 12), s[1:]}
	for _, change := range []func(m *api.Msg){
		func(m *api.Msg) { m.To = 0 }, func(m *api.Msg) { m.To = 2 }, func(m *api.Msg) { m.To = 63 },
		func(m *api.Msg) { m.From = 1 }, func(m *api.Msg) { m.From = 3 }, func(m *api.Msg) { m.From = 63 },
		func(m *api.Msg) { m.From, m.To = 1, 0 }, func(m *api.Msg) { m.Kind, m.From = api.MsgPing, 3 },
	} {
		m := sound
		change(&m)
		wrong = append(wrong, pack(m))
	}
	for at := range len(s) {
		wrong = append(wrong, s[:at]+string([]byte{s[at] ^ 4})+s[at+1:])
	}
	for i, x := range wrong {
		if out := b.receive(x); len(out) != 0 {
			t.Fatalf("%d: %q", i, x)
		}
		b.has("a", api.Rec{})
		if many := fmt.Sprint(i + 1); b.stat("frames") != many || b.stat("bad") != many || b.n.Sizes() != (api.Sizes{}) {
			t.Fatalf("%d: %q", i, x)
		}
	}
	b.receive(s)
	b.has("a", sound.Recs[0])
	if b.stat("frames") != fmt.Sprint(len(wrong)+1) || b.stat("bad") != fmt.Sprint(len(wrong)) || b.n.View()[2] != isDead(3) {
		t.Error(b.n.View())
	}
}

// P24.1: news come with messages of every kind, and are heard ahead of what else is done.
func TestNewsOfAll(t *testing.T) {
	for kind := uint8(1); kind <= 14; kind++ {
		b := start(t, 3)
		b.gets(api.Msg{Kind: kind, From: 1, News: []api.News{{Node: 2, Member: isDead(0)}, {Node: 0, Member: suspect(0)}}})
		if v := b.n.View(); !slices.Equal(v, []api.Member{alive(1), alive(0), isDead(0)}) {
			t.Errorf("%d: %v", kind, v)
		}
	}
}

// P24.1, P6: what was changed is told on, 6 times, 4 at once, with each message that doesn't tell the whole view.
func TestTalk(t *testing.T) {
	b := newBoth(t, conf(8), 0, 10, false)
	var news []api.News
	for node := uint8(1); node <= 5; node++ {
		news = append(news, api.News{Node: node, Member: suspect(1)})
	}
	b.gets(api.Msg{Kind: api.MsgPush, From: 1, News: append(news, news...)})
	if z := b.n.Sizes(); z.Talk != 5 {
		t.Fatalf("%+v", z)
	}
	told := map[uint8]int{}
	for i := range 12 {
		ack := b.gets(api.Msg{Kind: api.MsgPing, From: 1})
		if len(ack[0].News) != 8 {
			t.Fatalf("%+v", ack)
		}
		l := b.gets(api.Msg{Kind: api.MsgRead, From: 1, Keys: []string{"a"}})
		for _, x := range l[0].News {
			told[x.Node]++
		}
		if many := len(l[0].News); many > 4 || i < 7 && many != 4 || i > 7 && many != 0 {
			t.Fatalf("%d: %+v", i, l)
		}
	}
	for node := uint8(1); node <= 5; node++ {
		if told[node] != 6 || len(told) != 5 {
			t.Errorf("%v", told)
		}
	}
	if z := b.n.Sizes(); z.Talk != 0 {
		t.Errorf("%+v", z)
	}
}
