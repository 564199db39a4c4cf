package node

import (
	"slices"
	"testing"

	"tattler/api"
	"tattler/ring"
)

func pingMsg(to uint8, view ...api.Member) api.Msg {
	return api.Msg{Kind: api.MsgPing, To: to, News: views(view...)}
}

func reqMsg(to, target uint8) api.Msg { return api.Msg{Kind: api.MsgReq, To: to, Target: target} }

func hintMsg(to uint8, r api.Rec) api.Msg {
	return api.Msg{Kind: api.MsgHint, To: to, Recs: []api.Rec{r}}
}

func summaryMsg(to uint8, k int, l ...api.Seen) api.Msg {
	return api.Msg{Kind: api.MsgSummary, To: to, Range: uint8(k), Seen: l}
}

func rootMsg(to uint8, root uint64) api.Msg {
	return api.Msg{Kind: api.MsgRoot, To: to, Digests: []uint64{root}}
}

// P24.1: all that goes out at a tick, in its order: who is pinged, helpers, what requests that are over lead to, hints, the sweep, the root.
func TestTickOrder(t *testing.T) {
	b := newBoth(t, conf(4), 0, 10, false)
	one, two := keyOf(4, 0, 1, 2), keyOf(4, 0, 3, 2)
	if one > two {
		t.Fatalf("%q, %q: hints go by rising keys", one, two)
	}
	x := marker(one, at(10, 0, 0))
	b.says(0, "set "+one+" 0 0 1\r\nx\r\nget "+two+"\r\n", "")
	b.expect(b.msgs(b.tick(0)), pingMsg(1, alive(0), alive(0), alive(0), alive(0)),
		hintMsg(1, x), hintMsg(2, x), summaryMsg(1, 0), rootMsg(1, 0))
	b.says(1, "delete "+two+"\r\n", "")
	b.gets(item(3, 2, two, value(two, at(9, 0, 1), "y"), false))
	b.gets(item(2, 2, two, value(two, at(9, 0, 1), "y"), false))
	y := tomb(two, at(11, 0, 0))
	b.expect(b.msgs(b.tick(0)), pingMsg(2, alive(0), alive(0), alive(0), alive(0)), reqMsg(2, 1), reqMsg(3, 1),
		hintMsg(1, x), hintMsg(2, x), hintMsg(3, y), hintMsg(2, y), summaryMsg(2, 0), rootMsg(2, 0))
	b.gets(api.Msg{Kind: api.MsgHinted, From: 2, Recs: []api.Rec{x}})
	b.expect(b.msgs(b.tick(1)), pingMsg(3, alive(0), suspect(0), alive(0), alive(0)), reqMsg(3, 2), reqMsg(1, 2),
		readMsg(3, 4, two), readMsg(2, 4, two), hintMsg(1, x), hintMsg(3, y), hintMsg(2, y), summaryMsg(3, 0), rootMsg(3, 0))
	b.said(0, api.Lost)
}

// P24.1: who doesn't answer is pinged, asked about, suspected, and Dead Suspect ticks behind that; who does isn't.
func TestSuspicion(t *testing.T) {
	for _, ticks := range []int{1, 2, 4, 9} {
		for _, time := range []uint64{0, 10, api.MaxTime - 3} {
			c := conf(2)
			c.Suspect = ticks
			n, _ := New(c, 1, time, false)
			states := []uint8{}
			for range ticks + 3 {
				n.Tick(0)
				states = append(states, n.View()[0].State)
			}
			want := []uint8{api.Alive, api.Alive}
			for range ticks {
				want = append(want, api.Suspect)
			}
			if !slices.Equal(states, append(want, api.Dead)) {
				t.Errorf("%d at %d: %v", ticks, time, states)
			}
		}
	}
	b := start(t, 2)
	for range uint64(20) {
		l := kinds(b.ticks(1), api.MsgPing)
		if len(l) != 1 {
			t.Fatalf("%+v", l)
		}
		b.gets(api.Msg{Kind: api.MsgAck, From: 1, Target: 1})
		if b.n.View()[1] != alive(0) {
			t.Fatal(b.n.View())
		}
	}
}

// P24.1, P6: an answer told by a helper counts; one about the wrong node doesn't; only who is Alive is suspected.
func TestFailed(t *testing.T) {
	b := start(t, 3)
	b.tick(0)
	b.expect(kinds(b.msgs(b.tick(0)), api.MsgReq), reqMsg(2, 1))
	b.gets(api.Msg{Kind: api.MsgAck, From: 2, Target: 1})
	b.gets(api.Msg{Kind: api.MsgAck, From: 2, Target: 2})
	b.tick(0)
	if v := b.n.View(); v[1] != alive(0) {
		t.Error(v)
	}
	for _, x := range []struct{ told, want api.Member }{
		{alive(7), suspect(7)}, {suspect(7), suspect(7)}, {isDead(7), isDead(7)}, {api.Member{State: api.Left, Inc: 7}, api.Member{State: api.Left, Inc: 7}},
	} {
		b := start(t, 3)
		b.tick(0)
		b.tick(0)
		b.gets(api.Msg{Kind: api.MsgAck, From: 2, Target: 2, News: []api.News{{Node: 1, Member: x.told}}})
		talk := b.n.Sizes().Talk
		b.tick(0)
		if v := b.n.View(); v[1] != x.want || x.told != x.want && b.n.Sizes().Talk < talk {
			t.Errorf("%+v: %v", x, v)
		}
	}
}

// P24.1, P6: a doubt begins where a node is Suspect, by whomever; it ends by a greater incarnation, not by the same; and begins anew then.
func TestDoubts(t *testing.T) {
	hear := func(b *both, m api.Member) {
		b.gets(api.Msg{Kind: api.MsgPush, From: 1, News: []api.News{{Node: 2, Member: m}}})
	}
	c := conf(3)
	c.Suspect = 3
	for _, x := range []struct {
		name   string
		heard  []api.Member // one ahead of each tick
		states []api.Member // behind each tick
	}{
		{"nobody answers", []api.Member{suspect(1)}, []api.Member{suspect(1), suspect(1), isDead(1)}},
		{"told again", []api.Member{suspect(1), suspect(1), suspect(1)}, []api.Member{suspect(1), suspect(1), isDead(1)}},
		{"the same Alive", []api.Member{suspect(1), alive(1)}, []api.Member{suspect(1), suspect(1), isDead(1)}},
		{"refuted", []api.Member{suspect(1), alive(2)}, []api.Member{suspect(1), alive(2), alive(2), alive(2)}},
		{"refuted in time", []api.Member{suspect(1), suspect(1), alive(2)}, []api.Member{suspect(1), suspect(1), alive(2), alive(2)}},
		{"suspected anew", []api.Member{suspect(1), suspect(2)}, []api.Member{suspect(1), suspect(2), suspect(2), isDead(2)}},
		{"an earlier one", []api.Member{suspect(2), suspect(1)}, []api.Member{suspect(2), suspect(2), isDead(2)}},
		{"Dead by others", []api.Member{suspect(1), isDead(1), alive(2)}, []api.Member{suspect(1), isDead(1), alive(2), alive(2)}},
		{"Dead, and suspected of a greater one", []api.Member{isDead(1), suspect(2)}, []api.Member{isDead(1), suspect(2), suspect(2), isDead(2)}},
	} {
		b := newBoth(t, c, 0, 10, false)
		for i, want := range x.states {
			if i < len(x.heard) {
				hear(b, x.heard[i])
			}
			b.tick(0)
			b.gets(api.Msg{Kind: api.MsgAck, From: 2, Target: 2})
			if m := b.n.View()[2]; m != want {
				t.Errorf("%s: tick %d: %v", x.name, i, m)
			}
		}
	}
}

// P24.1: the sweep goes over all other nodes, from the next one on, with the range 0, then with 1, up to 63, and so on; one of each tick.
func TestSweep(t *testing.T) {
	for _, x := range []struct {
		nodes int
		id    uint8
		row   []uint8
	}{{2, 0, []uint8{1}}, {2, 1, []uint8{0}}, {3, 1, []uint8{2, 0}}, {4, 0, []uint8{1, 2, 3}}, {4, 2, []uint8{3, 0, 1}}, {5, 4, []uint8{0, 1, 2, 3}}} {
		c := conf(x.nodes)
		c.Suspect = 1000
		b := newBoth(t, c, x.id, 10, false)
		for i := range 64*len(x.row) + 5 {
			l := kinds(b.msgs(b.tick(uint64(i))), api.MsgSummary)
			b.expect(l, summaryMsg(x.row[i%len(x.row)], i/len(x.row)%64))
		}
	}
	b := start(t, 1)
	b.expect(b.ticks(100))
}

// P24.1: what is seen of a range is told in full; nodes that aren't up are passed, and who is up again has its turn again.
func TestSweepPasses(t *testing.T) {
	b := newBoth(t, conf(4), 0, 10, false)
	hear := func(l ...api.News) { b.gets(api.Msg{Kind: api.MsgPush, From: 1, News: l}) }
	next := func(to uint8, k int, l ...api.Seen) {
		t.Helper()
		b.expect(kinds(b.msgs(b.tick(0)), api.MsgSummary), summaryMsg(to, k, l...))
		for node := uint8(1); node < 4; node++ {
			b.gets(api.Msg{Kind: api.MsgAck, From: 1, Target: node})
		}
	}
	zero := append(inRange(0, 1, 0, 1), inRange(0, 1, 1, 2)...)
	slices.Sort(zero)
	b.gets(api.Msg{Kind: api.MsgPush, From: 1, Recs: []api.Rec{tomb(zero[1], at(9, 0, 1)), value(zero[0], at(8, 3, 2), "x")}})
	seen := []api.Seen{{Key: zero[0], Stamp: at(8, 3, 2), Kind: api.Value}, {Key: zero[1], Stamp: at(9, 0, 1), Kind: api.Tomb}}
	next(1, 0, seen...)
	hear(api.News{Node: 2, Member: isDead(0)})
	next(3, 0, seen...)
	next(1, 1)
	hear(api.News{Node: 2, Member: suspect(1)})
	next(2, 1)
	hear(api.News{Node: 3, Member: api.Member{State: api.Left, Inc: 1}}, api.News{Node: 2, Member: isDead(1)})
	next(1, 2)
	next(1, 3)
	// With nobody up nothing is swept; each was passed once at each of these ticks.
	hear(api.News{Node: 1, Member: isDead(1)})
	for range 2 {
		b.expect(kinds(b.msgs(b.tick(0)), api.MsgSummary, api.MsgRoot))
	}
	hear(api.News{Node: 1, Member: alive(2)})
	next(1, 6)
}

// P24.1: who was pinged is told the root, if it is up; it is pinged all the same.
func TestRootToPinged(t *testing.T) {
	b := start(t, 3)
	b.dead(1)
	for i := range 12 {
		l := kinds(b.msgs(b.tick(uint64(i))), api.MsgPing, api.MsgRoot)
		want := []api.Msg{{Kind: api.MsgPing, To: l[0].To, News: l[0].News}}
		if l[0].To == 2 {
			want = append(want, rootMsg(2, 0))
		}
		b.expect(l, want...)
		b.gets(api.Msg{Kind: api.MsgAck, From: 2, Target: 2})
	}
}

// P24.1: hints are sent to owners that are up and haven't acked them, tick for tick; when the owners are others, to these; settled, when all have.
func TestHintsAtTicks(t *testing.T) {
	c := conf(4)
	c.Suspect = 1000
	b := newBoth(t, c, 0, 10, false)
	const third = 3
	i := 0
	for !slices.Equal(ring.Owners(keyOf(4, i, 1, 2), []uint8{0, 2, third}), []uint8{2, third}) {
		i++
	}
	key := keyOf(4, i, 1, 2)
	r := marker(key, at(10, 0, 0))
	b.says(0, "set "+key+" 0 0 1\r\nx\r\n", "")
	hints := func() []api.Msg { return kinds(b.msgs(b.tick(0)), api.MsgHint) }
	b.expect(hints(), hintMsg(1, r), hintMsg(2, r))
	b.gets(wrote(2, 1, r, true))
	b.expect(hints(), hintMsg(1, r))
	b.expect(hints(), hintMsg(1, r))
	b.dead(1)
	b.expect(hints(), hintMsg(third, r))
	b.has(key, api.Rec{})
	// Where only who has acked it is left, and the node itself: that takes it at once.
	b.dead(third)
	if z := b.n.Sizes(); z.Hints != 1 {
		t.Errorf("%+v", z)
	}
	b.expect(hints())
	b.has(key, r)
	if z := b.n.Sizes(); z.Hints != 0 {
		t.Errorf("%+v", z)
	}
}

// P24.1: a tick purges what is old, and lets what is over be so; behind MaxTime the time stands still, and ticks go on.
func TestTimes(t *testing.T) {
	c := conf(2)
	c.Keep = 2
	b := newBoth(t, c, 0, 10, false)
	b.gets(api.Msg{Kind: api.MsgPush, From: 1, Recs: []api.Rec{value("a", at(9, 0, 1), "x"), value("b", at(11, 0, 1), "y")}})
	if b.tick(0); b.n.Time() != 11 || b.n.Sizes().Records != 1 {
		t.Errorf("%d, %+v", b.n.Time(), b.n.Sizes())
	}
	b.has("a", api.Rec{})
	b.tick(0)
	if b.tick(0); b.n.Time() != 13 || b.n.Sizes().Records != 0 {
		t.Errorf("%d, %+v", b.n.Time(), b.n.Sizes())
	}
	n, _ := New(conf(2), 0, api.MaxTime-1, false)
	for range 3 {
		if l := n.Tick(0); len(l) == 0 || n.Time() != api.MaxTime {
			t.Errorf("%d", n.Time())
		}
	}
}

// P24.1: the draw says which helpers are asked, and in which row the others are pinged next.
func TestDraws(t *testing.T) {
	c := conf(6)
	c.Suspect = 1000
	rows := map[string]int{}
	for draw := range uint64(40) {
		b := newBoth(t, c, 0, 10, false)
		var row []byte
		for range 12 {
			for _, m := range b.msgs(b.tick(draw)) {
				if m.Kind == api.MsgPing || m.Kind == api.MsgReq {
					row = append(row, m.Kind, m.To, m.Target)
				}
			}
		}
		rows[string(row)]++
	}
	if len(rows) < 30 {
		t.Errorf("%d", len(rows))
	}
}
