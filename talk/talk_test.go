package talk

import (
	"math"
	"slices"
	"testing"

	"tattler/api"
)

// nodesOf are the nodes of news.
func nodesOf(l []api.News) []uint8 {
	var nodes []uint8
	for _, x := range l {
		nodes = append(nodes, x.Node)
	}
	return nodes
}

// expectTake lays the nodes that Take tells against a row that was reckoned by hand.
func expectTake(t *testing.T, b *both, want ...uint8) {
	t.Helper()
	if got := nodesOf(b.take()); !slices.Equal(got, want) {
		t.Fatalf("%s: %d, not %d", b.calls, got, want)
	}
}

// expectNews likewise, the news whole.
func expectNews(t *testing.T, b *both, want ...api.News) {
	t.Helper()
	if got := b.take(); !slices.Equal(got, want) {
		t.Fatalf("%s: %v, not %v", b.calls, got, want)
	}
}

func expectLen(t *testing.T, b *both, want int) {
	t.Helper()
	if n := b.talk.Len(); n != want {
		t.Fatalf("%s: Len is %d, not %d", b.calls, n, want)
	}
}

// below is the nodes from 0 on.
func below(n int) []uint8 {
	l := make([]uint8, n)
	for i := range l {
		l[i] = uint8(i)
	}
	return l
}

func backwards(l []uint8) []uint8 {
	l = slices.Clone(l)
	slices.Reverse(l)
	return l
}

// P18.1: the chapter's example.
func TestExample(t *testing.T) {
	x := newTalk(t, 2, 1)
	five, seven := news(5, api.Alive, 1), news(7, api.Dead, 2)
	if e := x.Add(five); e != api.OK {
		t.Fatal(e)
	}
	if e := x.Add(seven); e != api.OK {
		t.Fatal(e)
	}
	for i, want := range []api.News{seven, five, seven, five} {
		if l := x.Take(); !slices.Equal(l, []api.News{want}) {
			t.Fatalf("Take %d: %v, not %v", i, l, want)
		}
	}
	for range 3 {
		if l := x.Take(); len(l) != 0 || x.Len() != 0 {
			t.Fatalf("then %v, %d", l, x.Len())
		}
	}
}

// P18.1: New of all pairs of edges: ErrArg, and no talk, wherever one is not from 1 to 64.
func TestNew(t *testing.T) {
	numbers := []int{math.MinInt, math.MinInt + 1, math.MinInt32, -256, -65, -64, -2, -1, 0, 1, 2, 63, 64, 65, 66, 127, 128, 129, 255, 256, 257, 320, 1 << 16, 1<<16 + 1, math.MaxInt32, math.MaxUint32, math.MaxUint32 + 2, math.MaxUint32 + 65, math.MaxInt - 1, math.MaxInt}
	for _, times := range numbers {
		for _, most := range numbers {
			if times >= 1 && times <= 64 && most >= 1 && most <= 64 {
				b := newBoth(t, times, most)
				expectLen(t, b, 0)
				expectTake(t, b)
				b.add(news(3, api.Alive, 0))
				b.drain()
				continue
			}
			if x, e := New(times, most); x != nil || e != api.ErrArg {
				t.Errorf("New(%d, %d): %v, %d", times, most, x, e)
			}
		}
	}
}

// P18.1: a talk of each pair from 1 to 64: one piece is told times times; of 64 most are told at once.
func TestEveryTalk(t *testing.T) {
	for times := 1; times <= 64; times++ {
		for most := 1; most <= 64; most++ {
			x := newTalk(t, times, most)
			for i := range uint8(64) {
				x.Add(news(i, api.Alive, 0))
			}
			if l := nodesOf(x.Take()); !slices.Equal(l, backwards(below(64))[:most]) {
				t.Fatalf("New(%d, %d): Take: %d", times, most, l)
			}
			y := newTalk(t, times, most)
			y.Add(news(9, api.Dead, 4))
			for i := range times {
				if l := y.Take(); y.Len() != min(1, times-1-i) || !slices.Equal(l, []api.News{news(9, api.Dead, 4)}) {
					t.Fatalf("New(%d, %d): Take %d: %v, then %d", times, most, i, l, y.Len())
				}
			}
			if l := y.Take(); len(l) != 0 {
				t.Fatalf("New(%d, %d): %v of nothing", times, most, l)
			}
		}
	}
}

// P18.1: nodes up to 63 are taken, those above are ErrArg and change nothing: neither Len, nor what is told, nor its order.
func TestNodes(t *testing.T) {
	for _, there := range [][]uint8{nil, {0}, {63}, {5, 0, 63}, below(64)} {
		b := newBoth(t, 2, 64)
		b.addAll(api.Alive, 1, there...)
		for node := 64; node < 256; node++ {
			if e := b.add(news(uint8(node), api.Dead, 9)); e != api.ErrArg {
				t.Fatalf("Add of %d: %d", node, e)
			}
			expectLen(t, b, len(there))
		}
		expectTake(t, b, backwards(there)...)
		b.add(news(64, api.Dead, 9))
		b.add(news(255, api.Dead, 9))
		expectTake(t, b, backwards(there)...)
		expectTake(t, b)
	}
	for node := range uint8(64) {
		b := newBoth(t, 1, 1)
		if e := b.add(news(node, api.Left, api.MaxInc)); e != api.OK {
			t.Fatalf("Add of %d: %d", node, e)
		}
		expectLen(t, b, 1)
		expectNews(t, b, news(node, api.Left, api.MaxInc))
		expectLen(t, b, 0)
	}
}

// P18.1: of members nothing is asked: any state and incarnation is told as it was added.
func TestAnyMember(t *testing.T) {
	for state := range 256 {
		for _, inc := range []uint32{0, 1, 1 << 31, api.MaxInc} {
			b := newBoth(t, 1, 3)
			if e := b.add(news(63, uint8(state), inc)); e != api.OK {
				t.Fatalf("Add of state %d, %d: %d", state, inc, e)
			}
			expectNews(t, b, news(63, uint8(state), inc))
		}
	}
}

// P18.1: what is newer plays no part: the piece that was added last stands instead of what there was.
func TestOlderMemberReplaces(t *testing.T) {
	b := newBoth(t, 2, 2)
	b.add(news(1, api.Left, 9))
	b.add(news(1, api.Alive, 0))
	expectLen(t, b, 1)
	expectNews(t, b, news(1, api.Alive, 0))
	b.add(news(1, api.Alive, 0))
	expectNews(t, b, news(1, api.Alive, 0))
	expectNews(t, b, news(1, api.Alive, 0))
	expectNews(t, b)
}

// P18.1: Take with none, as many as most, one less and one more.
func TestMost(t *testing.T) {
	for _, most := range []int{1, 2, 3, 4, 17, 62, 63, 64} {
		for _, pieces := range []int{0, most - 1, most, most + 1, 64} {
			if pieces > 64 {
				continue
			}
			b := newBoth(t, 1, most)
			b.addAll(api.Suspect, 3, below(pieces)...)
			expectLen(t, b, pieces)
			row := backwards(below(pieces))
			first := min(most, pieces)
			expectTake(t, b, row[:first]...)
			expectLen(t, b, pieces-first)
			expectTake(t, b, row[first:min(pieces, 2*most)]...)
			b.drain()
			expectLen(t, b, 0)
		}
	}
}

// P18.1: the order of telling, call by call. A row is what is done: a node below 64 is added, and takes stands for a Take, whose answer is the next one of told.
func TestOrderOfTelling(t *testing.T) {
	const takes = 200
	for _, c := range []struct {
		times, most int
		row         []uint8
		told        [][]uint8
	}{
		// Told equally often: the one that came last is first, whatever its number.
		{3, 64, []uint8{1, 2, 3, takes}, [][]uint8{{3, 2, 1}}},
		{3, 64, []uint8{3, 2, 1, takes}, [][]uint8{{1, 2, 3}}},
		{3, 64, []uint8{2, 63, 0, takes, takes, takes, takes}, [][]uint8{{0, 63, 2}, {0, 63, 2}, {0, 63, 2}, nil}},
		// Told unlike often: less often first, though others came later.
		{3, 1, []uint8{1, 2, 3, takes, takes, takes, takes}, [][]uint8{{3}, {2}, {1}, {3}}},
		{3, 2, []uint8{1, 2, 3, takes, takes, takes, takes, takes, takes}, [][]uint8{{3, 2}, {1, 3}, {2, 1}, {3, 2}, {1}, nil}},
		{9, 1, []uint8{1, takes, takes, 2, takes, takes, takes, takes}, [][]uint8{{1}, {1}, {2}, {2}, {2}, {1}}},
		{9, 2, []uint8{4, takes, 5, takes, 6, takes, takes, takes}, [][]uint8{{4}, {5, 4}, {6, 5}, {6, 5}, {6, 4}}},
		// That a piece was told does not make it one that came.
		{4, 2, []uint8{1, 2, 3, 4, takes, takes, takes, takes}, [][]uint8{{4, 3}, {2, 1}, {4, 3}, {2, 1}}},
		{4, 3, []uint8{1, 2, 3, 4, takes, takes, takes, takes}, [][]uint8{{4, 3, 2}, {1, 4, 3}, {2, 1, 4}, {3, 2, 1}}},
		// Added anew: it came last, and was told never.
		{3, 64, []uint8{1, 2, 3, 1, takes}, [][]uint8{{1, 3, 2}}},
		{3, 64, []uint8{1, 2, 3, 2, takes}, [][]uint8{{2, 3, 1}}},
		{3, 64, []uint8{1, 2, 3, 3, takes}, [][]uint8{{3, 2, 1}}},
		{3, 1, []uint8{1, 2, takes, 2, takes, takes, takes, takes, takes, takes}, [][]uint8{{2}, {2}, {1}, {2}, {1}, {2}, {1}}},
		{3, 1, []uint8{1, 2, takes, 1, takes, takes, takes}, [][]uint8{{2}, {1}, {1}, {2}}},
		// Pieces that are gone leave the order of the others as it is.
		{2, 2, []uint8{1, 2, takes, 3, takes, takes, 2, takes, takes}, [][]uint8{{2, 1}, {3, 2}, {3, 1}, {2}, {2}}},
		{1, 1, []uint8{1, 2, 3, takes, 4, takes, takes, takes, takes}, [][]uint8{{3}, {4}, {2}, {1}, nil}},
		{1, 2, []uint8{1, 2, 3, takes, 3, takes, takes}, [][]uint8{{3, 2}, {3, 1}, nil}},
	} {
		b := newBoth(t, c.times, c.most)
		told := c.told
		for i, x := range c.row {
			if x != takes {
				b.add(news(x, api.Alive, uint32(i)))
				continue
			}
			expectTake(t, b, told[0]...)
			told = told[1:]
		}
		if len(told) != 0 {
			t.Errorf("%s: a row too long", b.calls)
		}
	}
}

// P18.1, P18.2: a piece that is added anew while the old one was never told, told once, and so on to all but once: it is told from the beginning, with what it says now, it came last, and Len stays.
func TestAddedAnew(t *testing.T) {
	for _, times := range []int{1, 2, 3, 6, 63, 64} {
		for told := range times {
			b := newBoth(t, times, 64)
			b.addAll(api.Alive, 1, 5, 6, 7)
			for range told {
				expectNews(t, b, news(7, api.Alive, 1), news(6, api.Alive, 1), news(5, api.Alive, 1))
			}
			now := news(6, api.Dead, 2)
			b.add(now)
			expectLen(t, b, 3)
			for range times - told {
				expectNews(t, b, now, news(7, api.Alive, 1), news(5, api.Alive, 1))
			}
			for range told {
				expectLen(t, b, 1)
				expectNews(t, b, now)
			}
			expectLen(t, b, 0)
			expectNews(t, b)
		}
	}
}

// P18.1, P18.2: a piece that is gone and is added again is told times times once more.
func TestGoneAndAddedAgain(t *testing.T) {
	for _, times := range []int{1, 2, 6, 64} {
		b := newBoth(t, times, 1)
		for again := range uint32(4) {
			x := news(9, api.Suspect, again/2)
			b.add(x)
			for range times {
				expectLen(t, b, 1)
				expectNews(t, b, x)
			}
			expectLen(t, b, 0)
			expectNews(t, b)
		}
	}
}

// P18.1: with times 1 each piece is gone when it was told, and no other one is.
func TestTimesOne(t *testing.T) {
	b := newBoth(t, 1, 3)
	b.addAll(api.Dead, 0, below(64)...)
	row := backwards(below(64))
	for len(row) > 0 {
		n := min(3, len(row))
		expectTake(t, b, row[:n]...)
		row = row[n:]
		expectLen(t, b, len(row))
	}
	expectTake(t, b)
}

// P18.1: most 64 with 64 nodes: all are told at once, each time, till all are gone.
func TestAllAtOnce(t *testing.T) {
	for _, times := range []int{1, 2, 64} {
		b := newBoth(t, times, 64)
		b.addAll(api.Alive, 0, below(64)...)
		for range times {
			expectLen(t, b, 64)
			expectTake(t, b, backwards(below(64))...)
		}
		expectLen(t, b, 0)
		expectTake(t, b)
	}
}

// P18.2: all 64 nodes added twice, in both orders: no more than 64 are there, and the later ones are told.
func TestAllTwice(t *testing.T) {
	for _, first := range [][]uint8{below(64), backwards(below(64))} {
		for _, second := range [][]uint8{below(64), backwards(below(64))} {
			for _, most := range []int{1, 4, 63, 64} {
				b := newBoth(t, 2, most)
				b.addAll(api.Alive, 1, first...)
				expectLen(t, b, 64)
				b.take()
				b.addAll(api.Dead, 2, second...)
				expectLen(t, b, 64)
				row := backwards(second)
				for len(row) > 0 {
					n := min(most, len(row))
					l := b.take()
					if !slices.Equal(nodesOf(l)[:n], row[:n]) || l[0].Member != (api.Member{State: api.Dead, Inc: 2}) {
						t.Fatalf("most %d: %v, where %d are left", most, l, row)
					}
					row = row[n:]
				}
				b.drain()
			}
		}
	}
}

// P18.1: Len behind each call.
func TestLen(t *testing.T) {
	b := newBoth(t, 2, 2)
	expectLen(t, b, 0)
	for i, want := range []int{1, 2, 3, 3, 4, 4} {
		b.add(news([]uint8{8, 9, 10, 9, 11, 8}[i], api.Alive, 0))
		expectLen(t, b, want)
	}
	b.add(news(64, api.Alive, 0))
	expectLen(t, b, 4)
	for _, want := range []int{4, 4, 2, 0, 0} {
		b.take()
		expectLen(t, b, want)
	}
}

// P18.2: each piece that isn't replaced is told just times times, with Take alone, for many times, most and pieces.
func TestSoOften(t *testing.T) {
	for _, times := range []int{1, 2, 3, 6, 64} {
		for _, most := range []int{1, 2, 4, 5, 63, 64} {
			for _, pieces := range []int{1, 2, 3, 7, 64} {
				x := newTalk(t, times, most)
				for i := range pieces {
					x.Add(news(uint8(i), api.Alive, uint32(i)))
				}
				var often [64]int
				takes := 0
				for l := x.Take(); len(l) > 0; l = x.Take() {
					if takes++; takes > times*pieces {
						t.Fatalf("New(%d, %d), %d pieces: it never ends", times, most, pieces)
					}
					for _, n := range l {
						often[n.Node]++
					}
				}
				for i, n := range often {
					if i < pieces && n != times || i >= pieces && n != 0 {
						t.Fatalf("New(%d, %d), %d pieces: %d was told %d times", times, most, pieces, i, n)
					}
				}
				if x.Len() != 0 {
					t.Fatalf("New(%d, %d), %d pieces: %d are left", times, most, pieces, x.Len())
				}
			}
		}
	}
}

// R3: what Take answered may be changed, its spare room too, without a change of the talk, and is not changed by later calls.
func TestAnswersStandApart(t *testing.T) {
	for _, most := range []int{1, 2, 3, 5, 8, 33, 64} {
		for _, pieces := range []int{0, 1, 2, 3, 5, 8, 40, 64} {
			b := newBoth(t, 4, most)
			b.addAll(api.Alive, 1, below(pieces)...)
			kept := b.take()
			want := slices.Clone(kept)
			spoilt := b.take()
			room := spoilt[:cap(spoilt)]
			for i := range room {
				room[i] = news(99, 99, 99)
			}
			b.check()
			b.take()
			b.addAll(api.Dead, 2, below(pieces)...)
			b.drain()
			b.addAll(api.Left, 3, below(64)...)
			if !slices.Equal(kept, want) {
				t.Fatalf("most %d, %d pieces: %v has become %v", most, pieces, want, kept)
			}
			for i := range room {
				if room[i] != news(99, 99, 99) {
					t.Fatalf("most %d, %d pieces: what was answered has changed", most, pieces)
				}
			}
		}
	}
}

// R2: two talks side by side: neither changes the other one.
func TestTwoTalks(t *testing.T) {
	for seed := range uint64(40) {
		d := newDice(100 + seed)
		two := [2]*both{newBoth(t, 1+d.IntN(6), 1+d.IntN(6)), newBoth(t, 1+d.IntN(6), 1+d.IntN(6))}
		for range 200 {
			k := d.IntN(2)
			two[k].drawnCall(d, 8, 50)
			two[1-k].check()
		}
		two[0].drain()
		two[1].drain()
	}
}

// R2: the same row of calls is answered the same.
func TestAskedAgain(t *testing.T) {
	for seed := range uint64(20) {
		var answers [2][]api.News
		for k := range answers {
			d := newDice(200 + seed)
			x := newTalk(t, 5, 3)
			for range 300 {
				if d.IntN(2) == 0 {
					x.Add(d.drawn(64))
				} else {
					answers[k] = append(append(answers[k], x.Take()...), news(255, 0, uint32(x.Len())))
				}
			}
		}
		if !slices.Equal(answers[0], answers[1]) {
			t.Fatalf("%v, then %v", answers[0], answers[1])
		}
	}
}

// P18.1: a nil talk: ErrArg, none, 0.
func TestNil(t *testing.T) {
	var x *Talk
	for range 2 {
		for _, node := range []uint8{0, 1, 63, 64, 255} {
			if e := x.Add(news(node, api.Alive, 1)); e != api.ErrArg {
				t.Errorf("Add of %d: %d", node, e)
			}
			if l := x.Take(); len(l) != 0 {
				t.Errorf("Take: %v", l)
			}
			if n := x.Len(); n != 0 {
				t.Errorf("Len: %d", n)
			}
		}
	}
}

// P18.1, P18.2: every row of few calls, of few nodes and of one that there isn't, with small times and most.
func TestEveryRowOfCalls(t *testing.T) {
	for _, c := range []struct{ nodes, calls int }{{1, 8}, {2, 7}, {3, 6}} {
		kinds := c.nodes + 2
		rows := 1
		for range c.calls {
			rows *= kinds
		}
		for times := 1; times <= 3; times++ {
			for most := 1; most <= c.nodes; most++ {
				for row := range rows {
					everyRow(newBoth(t, times, most), c.nodes, c.calls, row)
				}
			}
		}
	}
}

// everyRow reads a number as a row of calls, a digit each.
func everyRow(b *both, nodes, calls, row int) {
	b.t.Helper()
	for i := range calls {
		k := row % (nodes + 2)
		row /= nodes + 2
		switch {
		case k < nodes:
			b.add(news(uint8(k), api.Alive, uint32(i)))
		case k == nodes:
			b.add(news(64, api.Alive, uint32(i)))
		default:
			b.take()
		}
	}
	b.drain()
}

// P18.1, P18.2: long rows of calls, drawn, from few nodes and from many, with small and great times and most.
func TestDrawnRows(t *testing.T) {
	seed := uint64(1000)
	for _, times := range []int{1, 2, 3, 6, 20, 64} {
		for _, most := range []int{1, 2, 4, 16, 63, 64} {
			for _, nodes := range []int{1, 2, 3, 8, 33, 64} {
				seed++
				b := newBoth(t, times, most)
				b.drawnCalls(newDice(seed), nodes, 250)
				b.drain()
			}
		}
	}
}

// P18.1, P18.2: talks of any times and most, that are emptied now and then.
func TestDrawnTalks(t *testing.T) {
	for seed := range uint64(300) {
		d := newDice(5000 + seed)
		b := newBoth(t, 1+d.IntN(one(d, 3, 10, 64)), 1+d.IntN(one(d, 3, 10, 64)))
		nodes := 1 + d.IntN(64)
		for range 1 + d.IntN(3) {
			b.drawnCalls(d, nodes, 1+d.IntN(120))
			b.drain()
		}
	}
}
