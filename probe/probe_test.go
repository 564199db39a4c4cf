package probe

import (
	"math"
	"slices"
	"testing"

	"tattler/api"
)

// far are numbers at New's and NewDoubts' edges, and far from them.
func far() []int {
	return []int{math.MinInt, math.MinInt + 1, math.MinInt + 2, math.MinInt32, -1001, -1000, -256, -65, -64, -2, -1, 0, 1, 2, 3, 63, 64, 65, 66, 127, 128, 255, 256, 257, 258, 320, 999, 1000, 1001, 1002, 1024, 1 << 16, 1<<16 + 2, 1<<16 + 1000, math.MaxInt32, math.MaxUint32, math.MaxUint32 + 3, math.MaxUint32 + 65, math.MaxInt - 1, math.MaxInt}
}

// asks is short for tables: pairs of a helper and whom it is asked about.
func asks(pairs ...uint8) []api.Ask {
	var l []api.Ask
	for i := 0; i+1 < len(pairs); i += 2 {
		l = append(l, api.Ask{Helper: pairs[i], Target: pairs[i+1]})
	}
	return l
}

// expectRound lays a tick against what was reckoned by hand.
func expectRound(t *testing.T, b *both, got api.Round, pings []uint8, asked []api.Ask, failed []uint8) {
	t.Helper()
	if !same(got, api.Round{Pings: pings, Asks: asked, Failed: failed}) {
		t.Fatalf("%s: %v, not %d, %v, %d", b.calls, got, pings, asked, failed)
	}
}

func expectWaits(t *testing.T, b *both, want ...uint8) {
	t.Helper()
	if got := b.probe.Waits(); !slices.Equal(got, want) {
		t.Fatalf("%s: waits for %d, not %d", b.calls, got, want)
	}
}

// P19.1: the chapter's example.
func TestExample(t *testing.T) {
	for _, x := range []uint64{0, 1, 2, 3, 1 << 40, math.MaxUint64} {
		b := newBoth(t, 0, 3)
		expectRound(t, b, b.tick(x, 1, 2), []uint8{1}, nil, nil)
		expectRound(t, b, b.tick(x, 1, 2), []uint8{2}, asks(2, 1), nil)
		third := b.tick(x, 1, 2)
		expectRound(t, b, third, third.Pings, asks(1, 2), []uint8{1})
		if len(third.Pings) != 1 || third.Pings[0] != 1 && third.Pings[0] != 2 {
			t.Fatal(third)
		}
	}
}

// P19.1: New of all pairs of edges: ErrArg, and no probe, wherever n is not from 1 to 64 or self isn't below it.
func TestNew(t *testing.T) {
	for _, n := range far() {
		for self := range 256 {
			if n >= 1 && n <= 64 && self < n {
				b := newBoth(t, uint8(self), n)
				expectWaits(t, b)
				b.tick(5, 0, 1, 2)
				b.tick(6, 0, 1, 2)
				continue
			}
			if p, e := New(uint8(self), n); p != nil || e != api.ErrArg {
				t.Fatalf("New(%d, %d): %v, %d", self, n, p, e)
			}
		}
	}
}

// P19.1: at first the row is rising, whoever self is.
func TestFirstRow(t *testing.T) {
	for n := 1; n <= 64; n++ {
		for self := range uint8(n) {
			b := newBoth(t, self, n)
			var row []uint8
			for range n - 1 {
				row = append(row, b.tick(math.MaxUint64).Pings...)
			}
			if !slices.Equal(row, others(self, n)) {
				t.Fatalf("New(%d, %d): %d", self, n, row)
			}
		}
	}
}

// P19.1: a probe alone pings nobody, and waits for nobody.
func TestAlone(t *testing.T) {
	b := newBoth(t, 0, 1)
	for i := range uint64(6) {
		expectRound(t, b, b.tick(i<<61, 0, 1, 2, 63, 255), nil, nil, nil)
		expectWaits(t, b)
		for _, node := range []uint8{0, 1, 64, 255} {
			if b.answer(node) {
				t.Fatal(b.calls)
			}
		}
	}
}

// P19.1: of two, the one other node is pinged at each tick; it is waited for since its first ping, and anew behind its failure.
func TestTwo(t *testing.T) {
	for self := range uint8(2) {
		it := 1 - self
		b := newBoth(t, self, 2)
		expectRound(t, b, b.tick(7, 0, 1), []uint8{it}, nil, nil)
		for i := range uint64(5) {
			expectRound(t, b, b.tick(i, 0, 1), []uint8{it}, nil, nil)
			expectWaits(t, b, it)
			expectRound(t, b, b.tick(i, 0, 1), []uint8{it}, nil, []uint8{it})
			expectWaits(t, b, it)
		}
		for range 5 {
			if !b.answer(it) || b.answer(it) {
				t.Fatal(b.calls)
			}
			expectWaits(t, b)
			expectRound(t, b, b.tick(9, 0, 1), []uint8{it}, nil, nil)
		}
	}
}

// P19.1: which helpers are asked: two, from the drawn place on, going round, each once, neither whom it is about, nor self, nor one that there isn't.
func TestHelpers(t *testing.T) {
	for _, c := range []struct {
		x       uint64
		helpers []uint8
		want    []uint8
	}{
		{0, nil, nil},
		{5, []uint8{}, nil},
		{math.MaxUint64, nil, nil},
		{0, []uint8{4}, []uint8{4}},
		{math.MaxUint64, []uint8{4}, []uint8{4}},
		{0, []uint8{0}, nil},
		{1, []uint8{2}, nil},
		{2, []uint8{6}, nil},
		{3, []uint8{255}, nil},
		{0, []uint8{5}, []uint8{5}},
		// Two of them: the draw says which one is first.
		{0, []uint8{4, 3}, []uint8{4, 3}},
		{1, []uint8{4, 3}, []uint8{3, 4}},
		{2, []uint8{4, 3}, []uint8{4, 3}},
		{math.MaxUint64, []uint8{4, 3}, []uint8{3, 4}},
		{math.MaxUint64 - 1, []uint8{4, 3}, []uint8{4, 3}},
		// Many: no more than two; the first place, the last one, and beyond a round.
		{0, []uint8{1, 3, 4, 5}, []uint8{1, 3}},
		{1, []uint8{1, 3, 4, 5}, []uint8{3, 4}},
		{2, []uint8{1, 3, 4, 5}, []uint8{4, 5}},
		{3, []uint8{1, 3, 4, 5}, []uint8{5, 1}},
		{4, []uint8{1, 3, 4, 5}, []uint8{1, 3}},
		{7, []uint8{1, 3, 4, 5}, []uint8{5, 1}},
		{1<<63 + 2, []uint8{1, 3, 4, 5}, []uint8{4, 5}},
		{math.MaxUint64, []uint8{1, 3, 4, 5}, []uint8{5, 1}},
		{math.MaxUint64, []uint8{1, 3, 4}, []uint8{1, 3}},
		{math.MaxUint64, []uint8{5, 4, 3, 1, 5, 4, 3}, []uint8{4, 3}},
		{1 << 32, []uint8{1, 3, 4}, []uint8{3, 4}},
		// Twice: asked once.
		{0, []uint8{4, 4}, []uint8{4}},
		{1, []uint8{4, 4, 4}, []uint8{4}},
		{0, []uint8{4, 4, 3}, []uint8{4, 3}},
		{1, []uint8{4, 3, 4}, []uint8{3, 4}},
		{2, []uint8{4, 3, 4}, []uint8{4, 3}},
		{0, []uint8{4, 4, 4, 4, 1}, []uint8{4, 1}},
		// Whom it is about (0), self (2), and nodes above 5 are passed by, but they count as places.
		{0, []uint8{0, 3, 4}, []uint8{3, 4}},
		{1, []uint8{0, 3, 4}, []uint8{3, 4}},
		{2, []uint8{0, 3, 4}, []uint8{4, 3}},
		{0, []uint8{2, 3, 4}, []uint8{3, 4}},
		{1, []uint8{3, 2, 4}, []uint8{4, 3}},
		{2, []uint8{3, 4, 2}, []uint8{3, 4}},
		{0, []uint8{6, 1, 64, 5}, []uint8{1, 5}},
		{2, []uint8{6, 1, 64, 5}, []uint8{5, 1}},
		{0, []uint8{0, 2, 6, 7, 63, 64, 128, 255}, nil},
		{3, []uint8{0, 2, 6, 5, 63, 64, 128, 255}, []uint8{5}},
		{4, []uint8{0, 2, 6, 5, 63, 64, 128, 255}, []uint8{5}},
		{9, []uint8{0, 2, 0, 2, 0, 2, 1, 1}, []uint8{1}},
	} {
		b := newBoth(t, 2, 6)
		b.tick(0)
		var want []api.Ask
		for _, helper := range c.want {
			want = append(want, api.Ask{Helper: helper, Target: 0})
		}
		handed := slices.Clone(c.helpers)
		expectRound(t, b, b.tick(c.x, handed...), []uint8{1}, want, nil)
		if !slices.Equal(handed, c.helpers) {
			t.Fatalf("%d has become %d", c.helpers, handed)
		}
	}
}

// P19.1: of 64 nodes, 63 is one that there is.
func TestHelpersOfAll(t *testing.T) {
	b := newBoth(t, 0, 64)
	b.tick(0, 63, 62)
	expectRound(t, b, b.tick(0, 64, 63, 62), []uint8{2}, asks(63, 1, 62, 1), nil)
	expectRound(t, b, b.tick(2, 64, 63, 62), []uint8{3}, asks(62, 2, 63, 2), []uint8{1})
	many := slices.Repeat([]uint8{1, 0, 64, 3, 65}, 1000)
	expectRound(t, b, b.tick(4999, many...), []uint8{4}, asks(1, 3), []uint8{2})
	many[0] = 63
	expectRound(t, b, b.tick(5000, many...), []uint8{5}, asks(63, 4, 3, 4), []uint8{3})
}

// P19.1: helpers are asked once about a node: at the tick behind its ping, with the helpers of that tick.
func TestAskedOnce(t *testing.T) {
	b := newBoth(t, 0, 9)
	expectRound(t, b, b.tick(0, 5, 6), []uint8{1}, nil, nil)
	expectRound(t, b, b.tick(0, 7, 8), []uint8{2}, asks(7, 1, 8, 1), nil)
	expectRound(t, b, b.tick(1, 5, 6), []uint8{3}, asks(6, 2, 5, 2), []uint8{1})
	expectRound(t, b, b.tick(1), []uint8{4}, nil, []uint8{2})
	if !b.answer(3) {
		t.Fatal(b.calls)
	}
	expectRound(t, b, b.tick(1, 3), []uint8{5}, asks(3, 4), nil)
}

// P19.1: a node that is pinged again while it is waited for is waited for since its first ping, and stays ahead of those that began later. Of node 0 among 3 the draw 1 makes the row 2, 1, and the draw 0 leaves it as it is.
func TestPingedAgain(t *testing.T) {
	b := newBoth(t, 0, 3)
	expectRound(t, b, b.tick(0), []uint8{1}, nil, nil)
	expectRound(t, b, b.tick(0), []uint8{2}, nil, nil)
	expectWaits(t, b, 1, 2)
	expectRound(t, b, b.tick(1, 1), []uint8{2}, asks(1, 2), []uint8{1})
	expectWaits(t, b, 2)
	expectRound(t, b, b.tick(0), []uint8{1}, nil, []uint8{2})
	expectWaits(t, b, 1)
	// One that has failed at this tick isn't waited for when it is pinged at it: it is from this tick on.
	expectRound(t, b, b.tick(1, 2), []uint8{1}, asks(2, 1), nil)
	expectWaits(t, b, 1)
	expectRound(t, b, b.tick(0), []uint8{2}, nil, []uint8{1})
	expectRound(t, b, b.tick(1, 1, 2), []uint8{2}, asks(1, 2), nil)
	// One that has answered is waited for anew.
	if !b.answer(2) {
		t.Fatal(b.calls)
	}
	expectRound(t, b, b.tick(1, 1, 2), []uint8{1}, nil, nil)
	expectWaits(t, b, 1)
}

// P19.1: the shuffle, at rows that were reckoned apart by hand.
func TestShuffle(t *testing.T) {
	for _, c := range []struct {
		self  uint8
		n     int
		draws []uint64
		rows  [][]uint8
	}{
		{0, 3, []uint64{0, 1, 2, 3}, [][]uint8{{1, 2}, {2, 1}, {1, 2}, {2, 1}}},
		{1, 3, []uint64{5, math.MaxUint64}, [][]uint8{{0, 2}, {0, 2}}},
		{3, 4, []uint64{0, 0, 0}, [][]uint8{{0, 2, 1}, {0, 1, 2}, {0, 2, 1}}},
		{2, 5, []uint64{0, 1, math.MaxUint64, math.MaxUint64 - 1}, [][]uint8{{4, 3, 1, 0}, {0, 4, 3, 1}, {0, 4, 1, 3}, {1, 0, 4, 3}}},
		{7, 8, []uint64{1 << 63, 1<<63 - 1, 7}, [][]uint8{{3, 6, 4, 5, 2, 0, 1}, {3, 6, 2, 1, 0, 4, 5}, {2, 6, 4, 3, 1, 0, 5}}},
		{11, 12, []uint64{12345678901234567890, 1<<63 - 1}, [][]uint8{{6, 10, 5, 3, 8, 0, 9, 1, 2, 4, 7}, {6, 10, 8, 9, 7, 5, 4, 3, 0, 1, 2}}},
	} {
		for _, between := range []uint64{0, 99, math.MaxUint64} {
			b := newBoth(t, c.self, c.n)
			for range c.n - 1 {
				b.tick(between)
			}
			for i, x := range c.draws {
				row := slices.Clone(b.tick(x).Pings)
				for range c.n - 2 {
					row = append(row, b.tick(between).Pings...)
				}
				if !slices.Equal(row, c.rows[i]) {
					t.Fatalf("%s: %d, not %d", b.calls, row, c.rows[i])
				}
			}
		}
	}
}

// P19.2: all in turn, for each count of nodes and many draws; the tally behind each tick looks after it.
func TestAllInTurn(t *testing.T) {
	for n := 1; n <= 64; n++ {
		d := newDice(uint64(n))
		b := newBoth(t, uint8(d.IntN(n)), n)
		for range 6 * n {
			b.tick(d.draw())
		}
	}
}

// P19.2: the rows aren't the same for ever: a node may be the first one of a row and the last one of the next one.
func TestRowsDiffer(t *testing.T) {
	far := 0
	d := newDice(77)
	b := newBoth(t, 0, 5)
	last := make([]int, 5)
	for tick := 1; tick <= 2000; tick++ {
		node := b.tick(d.draw()).Pings[0]
		far = max(far, tick-last[node])
		last[node] = tick
	}
	if far != 2*5-3 {
		t.Fatalf("at most %d ticks between two pings of a node", far)
	}
}

// P19.3: one that answers behind its ping, or a tick later, hasn't failed; one that doesn't has, two ticks behind its ping; an answer that is later than that is none.
func TestInTime(t *testing.T) {
	for n := 4; n <= 64; n += 5 {
		for ticks := range 4 {
			b := newBoth(t, 0, n)
			b.tick(1)
			for range ticks {
				r := b.tick(3)
				if (b.tally.tick == 3) != slices.Contains(r.Failed, 1) {
					t.Fatal(b.calls, r)
				}
			}
			if b.answer(1) != (ticks < 2) {
				t.Fatal(b.calls)
			}
			for range 3 {
				if r := b.tick(5); slices.Contains(r.Failed, 1) && n > 6 {
					t.Fatal(b.calls, r)
				}
			}
		}
	}
}

// P19.1: Answer of nodes that are waited for, in any order, and of such as aren't: self and nodes that there aren't, too.
func TestAnswer(t *testing.T) {
	b := newBoth(t, 3, 8)
	for node := range 256 {
		if b.answer(uint8(node)) {
			t.Fatal(b.calls)
		}
	}
	b.tick(0)
	b.tick(0)
	expectWaits(t, b, 0, 1)
	for node := range 256 {
		if node > 1 && b.answer(uint8(node)) {
			t.Fatal(b.calls)
		}
	}
	expectWaits(t, b, 0, 1)
	if !b.answer(1) || b.answer(1) {
		t.Fatal(b.calls)
	}
	expectWaits(t, b, 0)
	expectRound(t, b, b.tick(0, 4, 5), []uint8{2}, nil, []uint8{0})
	expectWaits(t, b, 2)
	b.tick(0)
	expectWaits(t, b, 2, 4)
	if !b.answer(2) {
		t.Fatal(b.calls)
	}
	expectWaits(t, b, 4)
	if !b.answer(4) {
		t.Fatal(b.calls)
	}
	expectWaits(t, b)
	expectRound(t, b, b.tick(0, 4, 5), []uint8{5}, nil, nil)
}

// spoil changes all of a list, its spare room too, and answers a question: whether it is still so.
func spoil[T comparable](l []T, with T) func() bool {
	l = l[:cap(l)]
	for i := range l {
		l[i] = with
	}
	return func() bool { return !slices.ContainsFunc(l, func(x T) bool { return x != with }) }
}

// R3: what Tick and Waits answered may be changed, its spare room too, without a change of the probe, and is not changed by later calls; helpers may be changed afterwards, and their spare room stays as it is.
func TestAnswersStandApart(t *testing.T) {
	for _, n := range []int{2, 3, 4, 9, 64} {
		d := newDice(uint64(300 + n))
		b := newBoth(t, uint8(n-1), n)
		var asked []func() bool
		for range 5 * n {
			helpers := append(make([]uint8, 0, 12), d.someHelpers(6)...)
			room := helpers[:cap(helpers)]
			had := slices.Clone(room)
			r := b.tick(d.draw(), helpers...)
			if !slices.Equal(room, had) {
				t.Fatalf("%s: helpers have become %d", b.calls, room)
			}
			asked = append(asked, spoil(room, 200), spoil(r.Pings, 201), spoil(r.Asks, api.Ask{Helper: 202, Target: 203}), spoil(r.Failed, 204), spoil(b.probe.Waits(), 205))
			b.check()
			if d.IntN(3) == 0 {
				b.answer(uint8(d.IntN(n)))
			}
		}
		for i, stands := range asked {
			if !stands() {
				t.Fatalf("%d: the list %d has changed", n, i)
			}
		}
	}
}

// R2: two probes side by side: neither changes the other one.
func TestTwoProbes(t *testing.T) {
	for seed := range uint64(30) {
		d := newDice(400 + seed)
		n := 2 + d.IntN(8)
		two := [2]*both{newBoth(t, 0, n), newBoth(t, uint8(n-1), n)}
		for range 120 {
			k := d.IntN(2)
			two[k].drawnCall(d, 40)
			two[1-k].check()
		}
	}
}

// R2: the same row of calls is answered the same.
func TestAskedAgain(t *testing.T) {
	for seed := range uint64(20) {
		var rounds [2][]api.Round
		var news [2][]api.News
		for k := range 2 {
			d := newDice(500 + seed)
			p, q := newProbe(t, 1, 7), newDoubts(t, 3)
			for now := range uint64(200) {
				rounds[k] = append(rounds[k], p.Tick(d.draw(), d.someHelpers(7)))
				p.Answer(uint8(d.IntN(7)))
				q.Begin(uint8(d.IntN(40)), uint32(d.IntN(3)), now)
				q.End(uint8(d.IntN(40)), uint32(d.IntN(3)))
				news[k] = append(news[k], q.Over(now)...)
			}
		}
		if !slices.EqualFunc(rounds[0], rounds[1], same) || !slices.Equal(news[0], news[1]) {
			t.Fatalf("%v, %v, then %v, %v", rounds[0], news[0], rounds[1], news[1])
		}
	}
}

// P19.1: a nil probe: nothing, false, none.
func TestNil(t *testing.T) {
	var p *Probe
	for _, x := range []uint64{0, 1, math.MaxUint64} {
		for _, helpers := range [][]uint8{nil, {0}, {1, 2, 255}} {
			if r := p.Tick(x, helpers); !same(r, api.Round{}) {
				t.Errorf("Tick: %v", r)
			}
			for node := range 256 {
				if p.Answer(uint8(node)) {
					t.Errorf("Answer of %d", node)
				}
			}
			if l := p.Waits(); len(l) != 0 {
				t.Errorf("Waits: %d", l)
			}
		}
	}
}

// P19.1: nil doubts: false, none.
func TestNilDoubts(t *testing.T) {
	var d *Doubts
	for range 2 {
		for _, now := range []uint64{0, 1, 1000, math.MaxUint64} {
			for node := range 256 {
				if d.Begin(uint8(node), 1, now) || d.End(uint8(node), math.MaxUint32) {
					t.Errorf("%d at %d", node, now)
				}
			}
			if l := d.Over(now); len(l) != 0 {
				t.Errorf("Over(%d): %v", now, l)
			}
		}
	}
}

// P19.1, P19.2, P19.3: every row of few calls, of few nodes.
func TestEveryRowOfCalls(t *testing.T) {
	for _, c := range []struct{ n, calls int }{{1, 5}, {2, 6}, {3, 5}, {4, 5}} {
		kinds := c.n + 4
		rows := 1
		for range c.calls {
			rows *= kinds
		}
		for self := range uint8(c.n) {
			for row := range rows {
				everyRow(newBoth(t, self, c.n), c.calls, row)
			}
		}
	}
}

// everyRow reads a number as a row of calls, a digit each.
func everyRow(b *both, calls, row int) {
	b.t.Helper()
	all := below(b.model.n + 1)
	for range calls {
		k := row % (b.model.n + 4)
		row /= b.model.n + 4
		switch k {
		case 0:
			b.tick(0, all...)
		case 1:
			b.tick(1, all...)
		case 2:
			b.tick(math.MaxUint64)
		default:
			b.answer(uint8(k - 3))
		}
	}
}

// P19.1, P19.2, P19.3: long rows of calls, drawn, of few nodes and of many.
func TestDrawnRows(t *testing.T) {
	for _, n := range []int{1, 2, 3, 4, 5, 8, 17, 33, 63, 64} {
		for seed := range uint64(12) {
			d := newDice(1000*uint64(n) + seed)
			newBoth(t, uint8(d.IntN(n)), n).drawnCalls(d, 300)
		}
	}
}

// P19.1, P19.2, P19.3: probes of any count of nodes.
func TestDrawnProbes(t *testing.T) {
	for seed := range uint64(400) {
		d := newDice(100000 + seed)
		n := 1 + d.IntN(one(d, 5, 12, 64))
		newBoth(t, uint8(d.IntN(n)), n).drawnCalls(d, 20+d.IntN(120))
	}
}
