package ask

import (
	"fmt"
	"maps"
	"math"
	"slices"
	"strings"
	"testing"
	"unsafe"

	"tattler/api"
)

// P21.1: the chapter's example.
func TestExample(t *testing.T) {
	v := value(at(5, 0, 1), "xy", 7, 0)
	a := New([]uint8{1, 2}, 10)
	if a.Over(9) || a.Take(3, has(v)) || !a.Take(1, has(v)) {
		t.Fatal("taken")
	}
	if best, live, there := a.Best(); best != v || !live || !there {
		t.Fatal(best, live, there)
	}
	if l := a.Behind(); len(l) != 0 || a.Over(9) {
		t.Fatal(l)
	}
	if !a.Take(2, hasNot()) || !a.Over(9) {
		t.Fatal("not over")
	}
	if l := a.Behind(); !slices.Equal(l, []uint8{2}) {
		t.Fatal(l)
	}
	if best, live, there := a.Best(); best != v || !live || !there || a.Yes() != 1 {
		t.Fatal(best, live, there, a.Yes())
	}
}

// below is the nodes from 0 on.
func below(n int) []uint8 {
	l := make([]uint8, n)
	for i := range l {
		l[i] = uint8(i)
	}
	return l
}

// rows are nodes to be asked: none, one, many, several times, at several places.
func rows() [][]uint8 {
	return [][]uint8{
		nil, {}, {0}, {1}, {63}, {64}, {255}, {0, 63}, {63, 0}, {0, 255}, {64, 63}, {255, 64, 63, 0}, {4, 4}, {4, 4, 4, 4}, {4, 4, 7}, {4, 7, 4}, {7, 4, 4}, {9, 3, 9, 3, 5, 9},
		{0, 0}, {255, 0, 255, 0}, {2, 1, 0}, below(3), below(63), below(64), below(65), below(256), append(below(256), below(256)...), slices.Repeat([]uint8{8, 2}, 500), append(slices.Repeat([]uint8{8}, 300), 2),
	}
}

// P21.1: New of many rows of nodes: each is asked once, however often and wherever it stands, and no other one is.
func TestNew(t *testing.T) {
	for _, row := range rows() {
		asked := map[uint8]bool{}
		for _, node := range row {
			asked[node] = true
		}
		b := newBoth(t, 10, row...)
		b.expect(0, api.Rec{}, false, false)
		left := len(asked)
		for i := range 256 {
			node := uint8(i * 37)
			b.expectOver(9, left == 0)
			b.expectTake(node, has(tomb(at(1, 0, 0))), asked[node])
			if asked[node] {
				left--
			}
			b.expectTake(node, has(tomb(at(2, 0, 0))), false)
		}
		b.expectOver(0, true)
		b.expect(len(asked), map[bool]api.Rec{true: tomb(at(1, 0, 0))}[len(asked) > 0], false, len(asked) > 0)
	}
}

// P21.1: the nodes stand in the order in which they were first handed in, by nothing else, whoever answers first.
func TestOrderOfNodes(t *testing.T) {
	for _, c := range []struct{ row, behind []uint8 }{
		{[]uint8{9, 1, 2, 3}, []uint8{1, 2, 3}},
		{[]uint8{9, 3, 2, 1}, []uint8{3, 2, 1}},
		{[]uint8{3, 1, 9, 2}, []uint8{3, 1, 2}},
		{[]uint8{2, 3, 1, 9}, []uint8{2, 3, 1}},
		{[]uint8{2, 2, 3, 9, 2, 1, 3, 9, 1}, []uint8{2, 3, 1}},
		{[]uint8{255, 64, 9, 63, 0, 255}, []uint8{255, 64, 63, 0}},
		{[]uint8{9, 200, 100, 0, 150, 100, 200}, []uint8{200, 100, 0, 150}},
	} {
		for seed := range uint64(20) {
			b := newBoth(t, 10, c.row...)
			for _, i := range newDice(seed).Perm(len(c.row)) {
				b.take(c.row[i], map[bool]api.Reply{true: has(marker(at(1, 0, 0)))}[c.row[i] == 9])
			}
			b.expect(1, marker(at(1, 0, 0)), false, true, c.behind...)
		}
	}
}

// P21.1: Over for now ahead of until, at it and behind it, with none, some and all having answered.
func TestOver(t *testing.T) {
	times := []uint64{0, 1, 2, 9, 10, 11, 255, 256, 1<<32 - 1, 1 << 32, api.MaxTime, 1<<63 - 1, 1 << 63, math.MaxUint64 - 1, math.MaxUint64}
	for _, until := range times {
		for _, n := range []int{0, 1, 2, 3, 64} {
			b := newBoth(t, until, below(n)...)
			for k := range n + 1 {
				for _, now := range times {
					b.expectOver(now, now >= until || k == n)
				}
				if k < n {
					b.expectTake(uint8(k), one(newDice(until+uint64(k)), hasNot(), has(tomb(at(1, 0, 0))), past(value(at(1, 0, 0), "", 0, 1))), true)
				}
			}
		}
	}
}

// P21.1: what answers, and how often, doesn't make it over; who is asked and hasn't answered is waited for, whatever stands in the answers.
func TestNotOver(t *testing.T) {
	b := newBoth(t, 100, 5, 6, 5, 6, 6)
	for range 5 {
		b.take(5, has(value(at(1, 0, 0), "x", 0, 0)))
		b.take(7, has(value(at(2, 0, 0), "y", 0, 0)))
		b.expectOver(99, false)
		b.expectOver(100, true)
		b.expectOver(0, false)
	}
	// It is told behind until too, and that makes it over for all times.
	b.expectTake(6, hasNot(), true)
	b.expectOver(0, true)
}

// P21.1: a request is over by its time, but what is answered behind that counts like all else.
func TestTakeWhenOver(t *testing.T) {
	b := newBoth(t, 0, 1, 2, 3)
	b.expectOver(0, true)
	b.expectTake(2, has(tomb(at(1, 0, 0))), true)
	b.expect(1, tomb(at(1, 0, 0)), false, true)
	b.expectTake(1, has(value(at(2, 0, 0), "x", 0, 0)), true)
	b.expect(2, value(at(2, 0, 0), "x", 0, 0), true, true, 2)
	b.expectTake(3, hasNot(), true)
	b.expect(2, value(at(2, 0, 0), "x", 0, 0), true, true, 2, 3)
}

// replies are of all kinds, those that have a record among them in no order.
func replies() []api.Reply {
	l := []api.Reply{
		hasNot(),
		{Past: true},
		{Rec: value(at(9, 9, 9), "later", 1, 2)},
		{Past: true, Rec: value(at(math.MaxUint64, math.MaxUint32, 255), "later", 1, 2)},
	}
	for _, r := range slices.Concat(rising(), strange()) {
		l = append(l, has(r), past(r))
	}
	return l
}

// rising are records, each behind the one ahead of it in this row.
func rising() []api.Rec {
	var l []api.Rec
	for _, s := range []api.Stamp{{}, at(0, 0, 1), at(0, 0, 63), at(0, 1, 0), at(0, math.MaxUint32, 63), at(1, 0, 0), at(5, 3, 2), at(5, 3, 3), at(5, 4, 0), at(6, 0, 0), at(256, 0, 0), at(api.MaxTime, math.MaxUint32, 63)} {
		l = append(l, marker(s), tomb(s))
		for _, body := range []string{"", "\x00", "a", "a\x00", "aa", "b", "\x80", "\xff"} {
			l = append(l, value(s, body, 0, 0), value(s, body, 0, 1), value(s, body, 0, api.MaxTime), value(s, body, 1, 0), value(s, body, 1, 5), value(s, body, math.MaxUint32, 0))
		}
	}
	return l
}

// strange are records that may not be, or are of other keys: of these, too, each call ends.
func strange() []api.Rec {
	v := value(at(5, 3, 2), "a", 1, 5)
	change := func(f func(r *api.Rec)) api.Rec {
		r := v
		f(&r)
		return r
	}
	return []api.Rec{
		{},
		change(func(r *api.Rec) { r.Key = "" }),
		change(func(r *api.Rec) { r.Key = strings.Repeat("k", 1000) }),
		change(func(r *api.Rec) { r.Kind = 0 }),
		change(func(r *api.Rec) { r.Kind = 1 }),
		change(func(r *api.Rec) { r.Kind = 2 }),
		change(func(r *api.Rec) { r.Kind = 4 }),
		change(func(r *api.Rec) { r.Kind = 255 }),
		change(func(r *api.Rec) { r.Stamp.Phys = math.MaxUint64 }),
		change(func(r *api.Rec) { r.Stamp.Node = 255 }),
		change(func(r *api.Rec) { r.Expiry = math.MaxUint64 }),
		change(func(r *api.Rec) { r.Body = strings.Repeat("a", 5000) }),
	}
}

// P21.1: Take of a node that isn't asked: false, and nothing changes, whatever it answers.
func TestTakeOfOthers(t *testing.T) {
	for _, row := range [][]uint8{nil, {0}, {63}, {255}, {1, 2}, {2, 1, 2}, below(64)} {
		b := newBoth(t, 10, row...)
		b.take(1, has(value(at(2, 0, 0), "x", 0, 0)))
		b.take(2, has(value(at(1, 0, 0), "x", 0, 0)))
		want := tells(b.ask)
		for i := range 256 {
			node := uint8(i)
			if slices.Contains(row, node) {
				continue
			}
			for _, r := range []api.Reply{hasNot(), has(value(at(9, 0, 0), "y", 0, 0)), past(value(at(9, 0, 0), "", 0, 1)), has(value(at(2, 0, 0), "x", 0, 0)), has(marker(at(0, 0, 0)))} {
				if b.ask.Take(node, r) || tells(b.ask) != want {
					t.Fatalf("%s: node %d, %v: %v", b.calls, node, r, tells(b.ask))
				}
			}
		}
		b.check()
	}
}

// P21.1, P21.3: Take of a node that has answered: false, and nothing changes, whether it answers the same or something else.
func TestTakeAgain(t *testing.T) {
	all := replies()
	some := slices.Concat(all[:8], all[len(all)-24:], all[200:230], []api.Reply{has(value(at(math.MaxUint64, 1, 1), "z", 3, 3))})
	for _, first := range some {
		for _, other := range []api.Reply{hasNot(), has(value(at(5, 3, 2), "a", 1, 5)), past(value(at(5, 3, 2), "a", 1, 5)), has(tomb(at(5, 3, 2)))} {
			a := New([]uint8{3, 8, 9, 3}, 10)
			a.Take(3, first)
			a.Take(8, other)
			want := tells(a)
			for _, again := range some {
				for _, node := range []uint8{3, 8} {
					if a.Take(node, again) || tells(a) != want || a.Over(9) {
						t.Fatalf("%v, %v, then of %d %v: %v, not %v", first, other, node, again, tells(a), want)
					}
				}
			}
			if !a.Take(9, first) || !a.Over(9) || a.Take(9, other) || a.Take(3, other) {
				t.Fatalf("%v, %v", first, other)
			}
		}
	}
}

// P21.1: an answer that has no record is none, whatever else stands in it: neither the best one, nor one that could say that the best one is live.
func TestHasNot(t *testing.T) {
	for _, r := range replies() {
		r.Has = false
		b := newBoth(t, 10, 1, 2, 3)
		b.expectTake(2, r, true)
		b.expect(0, api.Rec{}, false, false)
		v := value(at(5, 3, 2), "a", 1, 5)
		b.expectTake(3, past(v), true)
		b.expect(1, v, false, true, 2)
		b.expectTake(1, r, true)
		b.expect(1, v, false, true, 1, 2)
		b.expectOver(0, true)
	}
	v := value(at(5, 3, 2), "a", 1, 5)
	b := newBoth(t, 10, 1, 2)
	b.take(1, past(v))
	b.take(2, api.Reply{Rec: v})
	b.expect(1, v, false, true, 2)
}

// P21.1: Yes behind each call.
func TestYes(t *testing.T) {
	for _, n := range []int{1, 2, 3, 8, 63, 64, 256} {
		b := newBoth(t, 10, below(n)...)
		yes := 0
		for i := range n {
			r := []api.Reply{has(marker(at(1, 0, 0))), hasNot(), past(value(at(1, 0, 0), "", 0, 1)), {Past: true}, has(api.Rec{})}[i%5]
			b.take(uint8(i), r)
			if i%5 != 1 && i%5 != 3 {
				yes++
			}
			b.take(uint8(i), has(tomb(at(9, 0, 0))))
			b.take(uint8(i), hasNot())
			b.take(uint8(n), has(tomb(at(9, 0, 0))))
			if got := b.ask.Yes(); got != yes {
				t.Fatalf("%s: %d, not %d", b.calls, got, yes)
			}
		}
	}
	none := newBoth(t, 10)
	none.take(0, has(tomb(at(9, 0, 0))))
	none.expect(0, api.Rec{}, false, false)
}

// P21.1: Best of none and of one, of each kind, Past and not: live is just a Value that isn't Past.
func TestBestOfOne(t *testing.T) {
	b := newBoth(t, 10, 1)
	b.expect(0, api.Rec{}, false, false)
	b.take(1, hasNot())
	b.expect(0, api.Rec{}, false, false)
	for _, r := range slices.Concat(rising(), strange()) {
		b := newBoth(t, 10, 1, 2)
		b.expectTake(1, has(r), true)
		b.expect(1, r, r.Kind == api.Value, true)
		b = newBoth(t, 10, 1, 2)
		b.expectTake(2, past(r), true)
		b.expect(1, r, false, true)
	}
}

// P21.1: Best and Behind of two that differ by stamp, kind, body, flags or expiry: the later one, whoever says it and whoever says it first; it is live if it is a Value that isn't Past, whatever is said of the other one.
func TestBestOfTwo(t *testing.T) {
	row := rising()
	for i, lesser := range row {
		for j := i + 1; j < len(row); j += 1 + (i+j)%7 {
			for k := range 16 {
				l := []told{{1, api.Reply{Has: true, Past: k&1 > 0, Rec: lesser}}, {2, api.Reply{Has: true, Past: k&2 > 0, Rec: row[j]}}}
				behind := uint8(1)
				if k&4 > 0 {
					l[0].node, l[1].node, behind = 2, 1, 2
				}
				if k&8 > 0 {
					slices.Reverse(l)
				}
				a := New([]uint8{1, 2}, 10)
				if !a.Take(l[0].node, l[0].reply) || !a.Take(l[1].node, l[1].reply) {
					t.Fatal(l)
				}
				want := answer{2, row[j], row[j].Kind == 3 && k&2 == 0, true, fmt.Sprint([]uint8{behind})}
				if got := tells(a); got != want {
					t.Fatalf("%v: %v, not %v", l, got, want)
				}
			}
		}
	}
}

// P21.1: by each thing by which two records may differ, the order as the chapter of records has it, written by hand.
func TestBestByOneThing(t *testing.T) {
	s := at(5, 3, 2)
	for _, c := range []struct{ lesser, best api.Rec }{
		{value(at(4, 9, 9), "z", 9, 9), value(at(5, 0, 0), "", 0, 0)},
		{value(at(5, 2, 9), "z", 9, 9), value(at(5, 3, 0), "", 0, 0)},
		{value(at(5, 3, 1), "z", 9, 9), value(at(5, 3, 2), "", 0, 0)},
		{value(at(5, 3, 1), "z", 9, 9), marker(s)},
		{value(at(5, 3, 1), "z", 9, 9), tomb(s)},
		{marker(s), tomb(s)},
		{tomb(s), value(s, "", 0, 0)},
		{marker(s), value(s, "", 0, 0)},
		{value(s, "a", 9, 9), value(s, "b", 0, 0)},
		{value(s, "a", 9, 9), value(s, "aa", 0, 0)},
		{value(s, "", 9, 9), value(s, "\x00", 0, 0)},
		{value(s, "ab", 9, 9), value(s, "b", 0, 0)},
		{value(s, "\x7f", 9, 9), value(s, "\x80", 0, 0)},
		{value(s, "a", 1, 9), value(s, "a", 2, 0)},
		{value(s, "a", 1, 0), value(s, "a", 1, 9)},
	} {
		b := newBoth(t, 10, 6, 5)
		b.take(6, has(c.lesser))
		b.expect(1, c.lesser, c.lesser.Kind == 3, true)
		b.take(5, has(c.best))
		b.expect(2, c.best, c.best.Kind == 3, true, 6)
		b = newBoth(t, 10, 6, 5)
		b.take(6, has(c.best))
		b.take(5, has(c.lesser))
		b.expect(2, c.best, c.best.Kind == 3, true, 5)
	}
}

// P21.1: the very same record from several nodes, of which none, some or all say Past: live is a Value of which one of them doesn't say so; nobody is behind.
func TestSameOfMany(t *testing.T) {
	lesser := []api.Reply{hasNot(), {Rec: value(at(9, 0, 0), "", 0, 0)}, has(marker(at(0, 0, 0))), has(value(at(5, 3, 1), "xy", 4, 0))}
	for _, r := range []api.Rec{marker(at(5, 3, 2)), tomb(at(5, 3, 2)), value(at(5, 3, 2), "", 0, 7), value(at(5, 3, 2), "xy", 4, 0)} {
		for n := 1; n <= 5; n++ {
			for who := range 1 << n {
				b := newBoth(t, 10, below(n+1)...)
				live := false
				for i := range n {
					over := who>>i&1 > 0
					b.take(uint8(i), api.Reply{Has: true, Past: over, Rec: r})
					live = live || !over
					b.expect(i+1, r, live && r.Kind == 3, true)
				}
				// Who has nothing, or what stands ahead of it, says nothing of it.
				last := lesser[who%len(lesser)]
				b.take(uint8(n), last)
				b.expect(n+map[bool]int{true: 1}[last.Has], r, live && r.Kind == 3, true, uint8(n))
			}
		}
	}
}

// P21.1: a record that is the best one's but for one thing says nothing of whether that is live.
func TestLiveByJustThis(t *testing.T) {
	v := value(at(5, 3, 2), "xy", 4, 8)
	for _, r := range []api.Rec{
		value(at(4, 3, 2), "xy", 4, 8), value(at(5, 2, 2), "xy", 4, 8), value(at(5, 3, 1), "xy", 4, 8), value(at(5, 3, 2), "", 4, 8),
		value(at(5, 3, 2), "x", 4, 8), value(at(5, 3, 2), "xx", 4, 8), value(at(5, 3, 2), "xy", 3, 8), value(at(5, 3, 2), "xy", 4, 7), value(at(5, 3, 2), "xy", 4, 0),
		tomb(at(5, 3, 2)), marker(at(5, 3, 2)), tomb(at(5, 3, 1)),
	} {
		b := newBoth(t, 10, 1, 2, 3, 4)
		b.take(1, has(r))
		b.take(2, past(v))
		b.expect(2, v, false, true, 1)
		b.take(4, has(r))
		b.expect(3, v, false, true, 1, 4)
		b.take(3, has(v))
		b.expect(4, v, true, true, 1, 4)
	}
	// And that what stands ahead of it is over says nothing either.
	b := newBoth(t, 10, 1, 2)
	b.take(1, past(value(at(5, 3, 1), "", 4, 8)))
	b.expect(1, value(at(5, 3, 1), "", 4, 8), false, true)
	b.take(2, has(v))
	b.expect(2, v, true, true, 1)
}

// P21.1, P21.2: records that are the same but for their keys: neither stands ahead of the other one, so nobody is behind; the first one in the order of the nodes is told, whoever answers first, and it is live by an answer with just this one alone.
func TestOtherKeys(t *testing.T) {
	mine, other := value(at(5, 3, 2), "xy", 4, 8), value(at(5, 3, 2), "xy", 4, 8)
	other.Key = "j"
	for _, answers := range [][]told{
		{{1, has(mine)}, {2, has(other)}, {3, hasNot()}},
		{{3, hasNot()}, {2, has(other)}, {1, has(mine)}},
	} {
		for _, c := range []struct {
			row  []uint8
			best api.Rec
		}{{[]uint8{3, 1, 2}, mine}, {[]uint8{3, 2, 1}, other}} {
			b := newBoth(t, 10, c.row...)
			for _, x := range answers {
				b.take(x.node, x.reply)
			}
			b.expect(2, c.best, true, true, 3)
		}
	}
	b := newBoth(t, 10, 1, 2)
	b.take(2, has(other))
	b.expect(1, other, true, true)
	b.take(1, past(mine))
	b.expect(2, mine, false, true)
}

// P21.1: Behind: where there is no best one nobody is; else who has no record, or one ahead of the best, and not who hasn't answered.
func TestBehind(t *testing.T) {
	early, late := tomb(at(1, 0, 0)), value(at(2, 0, 0), "x", 0, 0)
	b := newBoth(t, 10, 7, 3, 200, 0, 63, 5)
	b.expect(0, api.Rec{}, false, false)
	b.take(3, hasNot())
	b.take(63, api.Reply{Past: true, Rec: late})
	b.expect(0, api.Rec{}, false, false)
	b.take(0, has(early))
	b.expect(1, early, false, true, 3, 63)
	b.take(200, has(early))
	b.expect(2, early, false, true, 3, 63)
	b.take(7, has(late))
	b.expect(3, late, true, true, 3, 200, 0, 63)
	b.take(5, past(late))
	b.expect(4, late, true, true, 3, 200, 0, 63)
	b.expectOver(0, true)

	none := newBoth(t, 10, 2, 1)
	none.take(2, hasNot())
	none.take(1, hasNot())
	none.expectOver(0, true)
	none.expect(0, api.Rec{}, false, false)
}

// P21.1: of a best one that is no live Value, too, is told who is behind.
func TestBehindWhatIsNotLive(t *testing.T) {
	for _, best := range []api.Reply{has(marker(at(5, 0, 0))), has(tomb(at(5, 0, 0))), past(tomb(at(5, 0, 0))), past(value(at(5, 0, 0), "", 1, 2))} {
		b := newBoth(t, 10, 4, 3, 2, 1)
		b.take(3, best)
		b.take(1, has(value(at(4, 0, 0), "x", 0, 0)))
		b.take(4, hasNot())
		b.expect(2, best.Rec, false, true, 4, 1)
	}
}

// R1: a nil request: false, true, 0, none, for all arguments.
func TestNil(t *testing.T) {
	var none *Ask
	for _, now := range []uint64{0, 1, 10, math.MaxUint64} {
		if !none.Over(now) {
			t.Errorf("Over(%d)", now)
		}
	}
	for node := range 256 {
		for _, r := range []api.Reply{hasNot(), has(value(at(1, 0, 0), "x", 0, 0)), past(api.Rec{})} {
			if none.Take(uint8(node), r) {
				t.Errorf("Take(%d, %v)", node, r)
			}
		}
	}
	if got := tells(none); got != (answer{behind: "[]"}) {
		t.Error(got)
	}
}

// R3: what New was handed, its spare room too, is left as it is, and may be changed afterwards without a change of the request.
func TestNodesStandApart(t *testing.T) {
	for _, row := range rows() {
		room := append(slices.Clone(row), 40, 41, 42, 43)
		was := slices.Clone(room)
		b := &both{t: t, ask: New(room[:len(row)], 10), model: newModel(row, 10), calls: []string{fmt.Sprintf("New(%d, 10)", row)}}
		b.take(5, has(tomb(at(1, 0, 0))))
		for i, node := range row[:len(row)/2] {
			b.take(node, []api.Reply{hasNot(), has(tomb(at(uint64(i), 0, 0)))}[i%2])
		}
		if !slices.Equal(room, was) {
			t.Fatalf("%d has become %d", was, room)
		}
		for i := range room {
			room[i] = 17
		}
		b.check()
		b.take(17, has(tomb(at(7, 0, 0))))
		b.take(40, has(tomb(at(8, 0, 0))))
		for _, node := range row {
			b.take(node, hasNot())
		}
		b.expectOver(0, true)
	}
}

// spoil changes all of a list, its spare room too; what it answers tells whether all of it is as it left it.
func spoil(l []uint8, with uint8) func() bool {
	room := l[:cap(l)]
	for i := range room {
		room[i] = with
	}
	return func() bool {
		return !slices.ContainsFunc(room, func(x uint8) bool { return x != with })
	}
}

// R3: what Behind answered may be changed, its spare room too, without a change of the request, and is not changed by later calls.
func TestBehindStandsApart(t *testing.T) {
	for _, n := range []int{1, 2, 3, 5, 8, 33, 64, 256} {
		b := newBoth(t, 10, append([]uint8{77}, below(n)...)...)
		b.take(77, has(tomb(at(1, 0, 0))))
		var spoilt []func() bool
		for i := range n {
			b.take(uint8(i), hasNot())
			kept := b.ask.Behind()
			was := slices.Clone(kept)
			spoilt = append(spoilt, spoil(b.ask.Behind(), uint8(99+i)))
			b.check()
			if !slices.Equal(kept, was) {
				t.Fatalf("%s: what was answered has changed", b.calls)
			}
		}
		for i, still := range spoilt {
			if !still() {
				t.Fatalf("%s: what was answered, and changed, has changed: %d", b.calls, i)
			}
		}
	}
}

// R3: texts that are handed in aren't kept, and those that are answered share no memory, with nothing.
func TestTextsStandApart(t *testing.T) {
	memory := []byte(strings.Repeat("k", 20) + strings.Repeat("b", 20))
	r := value(at(5, 3, 2), unsafe.String(&memory[20], 20), 1, 0)
	r.Key = unsafe.String(&memory[0], 20)
	a := New([]uint8{1, 2}, 10)
	a.Take(1, has(r))
	a.Take(2, has(r))
	var texts []string
	for range 3 {
		best, _, _ := a.Best()
		texts = append(texts, best.Key, best.Body)
	}
	for i, x := range texts {
		p := uintptr(unsafe.Pointer(unsafe.StringData(x)))
		if begin := uintptr(unsafe.Pointer(&memory[0])); p >= begin && p < begin+uintptr(len(memory)) {
			t.Errorf("%d is memory that was handed in", i)
		}
		for j, y := range texts[:i] {
			if unsafe.StringData(x) == unsafe.StringData(y) {
				t.Errorf("%d and %d share their memory", j, i)
			}
		}
	}
	for i := range memory {
		memory[i] = 'z'
	}
	want := api.Rec{Key: strings.Repeat("k", 20), Stamp: at(5, 3, 2), Kind: 3, Flags: 1, Body: strings.Repeat("b", 20)}
	if got, live, there := a.Best(); got != want || !live || !there {
		t.Errorf("%v, %v, %v", got, live, there)
	}
}

// R2: two requests side by side, of the same nodes: neither changes the other one.
func TestTwoRequests(t *testing.T) {
	nodes := []uint8{1, 2, 3}
	a, b := newBoth(t, 10, nodes...), newBoth(t, 20, nodes...)
	a.take(1, has(tomb(at(5, 0, 0))))
	b.expect(0, api.Rec{}, false, false)
	b.expectTake(1, hasNot(), true)
	b.expectTake(2, has(marker(at(1, 0, 0))), true)
	a.expect(1, tomb(at(5, 0, 0)), false, true)
	a.expectOver(10, true)
	b.expectOver(10, false)
	a.take(2, hasNot())
	a.take(3, hasNot())
	a.expectOver(0, true)
	b.expectOver(0, false)
	b.expect(1, marker(at(1, 0, 0)), false, true, 1)
	for seed := range uint64(40) {
		d := drawing{newDice(400 + seed), 6, 3}
		row := d.row()
		two := [2]*both{newBoth(t, d.until(), row...), newBoth(t, d.until(), row...)}
		for _, x := range d.answers(40) {
			k := d.IntN(2)
			two[k].take(x.node, x.reply)
			two[1-k].check()
		}
	}
}

// few are answers of which all rows are made.
func few() []api.Reply {
	v := value(at(5, 0, 0), "x", 0, 9)
	return []api.Reply{hasNot(), {Rec: v}, has(v), past(v), past(value(at(5, 0, 0), "", 0, 9)), has(tomb(at(5, 0, 0))), has(marker(at(6, 0, 0)))}
}

// P21.1, P21.3: every row of few calls of two nodes and of one that isn't asked.
func TestEveryRow(t *testing.T) {
	var kinds []told
	for _, r := range few() {
		for node := range uint8(3) {
			kinds = append(kinds, told{node, r})
		}
	}
	const calls = 3
	rows := 1
	for range calls {
		rows *= len(kinds)
	}
	for row := range rows {
		b := newBoth(t, 10, 1, 0, 1)
		for left, i := row, 0; i < calls; i++ {
			x := kinds[left%len(kinds)]
			b.take(x.node, x.reply)
			left /= len(kinds)
		}
	}
}

// orders calls f with each order of the numbers below n.
func orders(n int, f func(order []int)) {
	var grow func(order []int)
	grow = func(order []int) {
		if len(order) == n {
			f(order)
			return
		}
		for i := range n {
			if !slices.Contains(order, i) {
				grow(append(slices.Clone(order), i))
			}
		}
	}
	grow(nil)
}

// P21.2: whatever three nodes answer, in each order it is the same.
func TestEveryOrder(t *testing.T) {
	nodes := []uint8{4, 0, 9}
	other := value(at(5, 0, 0), "x", 0, 9)
	// A record of another key, which else is one of the others: it doesn't stand ahead of it, nor that ahead of it.
	other.Key = "other"
	all := append(few(), has(other), past(other), hasNot())
	for row := range len(all) * len(all) * len(all) {
		answers := []api.Reply{all[row%len(all)], all[row/len(all)%len(all)], all[row/len(all)/len(all)]}
		var first *answer
		orders(3, func(order []int) {
			a := New(nodes, 10)
			for _, i := range order {
				a.Take(nodes[i], answers[i])
			}
			got := tells(a)
			if first == nil {
				first = &got
			}
			if got != *first || !a.Over(0) {
				t.Fatalf("%v, in the order %d: %v, not %v", answers, order, got, *first)
			}
		})
	}
}

// P21.2: the same answers in another order give the same best, and as many yes, of few nodes and of many, where all answer and where some do.
func TestDrawnOrders(t *testing.T) {
	for seed := range uint64(600) {
		d := drawing{newDice(1000 + seed), []int{1, 2, 3, 5, 20, 64, 250}[seed%7], 1 + int(seed%4)}
		row := d.row()
		var answers []told
		for node := range 256 {
			if d.IntN(5) > 0 {
				answers = append(answers, told{uint8(node), d.reply()})
			}
		}
		var want answer
		for turn := range 6 {
			a := New(row, 10)
			for _, x := range answers {
				a.Take(x.node, x.reply)
			}
			if turn == 0 {
				want = tells(a)
			}
			if got := tells(a); got != want {
				t.Fatalf("New(%d), %v: %v, not %v", row, answers, got, want)
			}
			d.Shuffle(len(answers), func(i, j int) { answers[i], answers[j] = answers[j], answers[i] })
		}
	}
}

// P21.2: of records of one key the nodes' own order plays no part either, but in that of those who are behind.
func TestOrderOfNodesPlaysNoPart(t *testing.T) {
	for seed := range uint64(200) {
		d := drawing{newDice(2000 + seed), 8, 1 + int(seed%3)}
		nodes, answers := below(8), make([]api.Reply, 8)
		for i := range answers {
			answers[i] = d.reply()
			answers[i].Rec.Key = "k"
		}
		var want answer
		for turn := range 5 {
			a := New(nodes, 10)
			for i, r := range answers {
				a.Take(uint8(i), r)
			}
			got := tells(a)
			behind := a.Behind()
			slices.Sort(behind)
			got.behind = fmt.Sprint(behind)
			if turn == 0 {
				want = got
			}
			if got != want {
				t.Fatalf("New(%d), %v: %v, not %v", nodes, answers, got, want)
			}
			d.Shuffle(8, func(i, j int) { nodes[i], nodes[j] = nodes[j], nodes[i] })
		}
	}
}

// P21.3: a request that is handed each node's first answer alone answers just what one does that is handed all of them.
func TestFirstAnswersAlone(t *testing.T) {
	for seed := range uint64(400) {
		d := drawing{newDice(3000 + seed), []int{1, 2, 3, 8, 64}[seed%5], 1 + int(seed%4)}
		row := d.row()
		all, alone := New(row, 10), New(row, 10)
		had := map[uint8]bool{}
		for _, x := range d.answers(80) {
			first := slices.Contains(row, x.node) && !had[x.node]
			if first {
				had[x.node] = true
				alone.Take(x.node, x.reply)
			}
			if got := all.Take(x.node, x.reply); got != first {
				t.Fatalf("New(%d), of %d: %v", row, x.node, got)
			}
			if got, want := tells(all), tells(alone); got != want || all.Over(9) != alone.Over(9) {
				t.Fatalf("New(%d): %v, not %v", row, got, want)
			}
		}
	}
}

// P21.1, P21.3: long rows of calls, drawn, of few nodes and of many, held against the reckoning call by call.
func TestDrawnRows(t *testing.T) {
	seed := uint64(5000)
	for _, nodes := range []int{1, 2, 3, 4, 8, 33, 64, 256} {
		for _, stamps := range []int{1, 2, 3, 50} {
			for range 12 {
				seed++
				d := drawing{newDice(seed), nodes, stamps}
				b := newBoth(t, d.until(), d.row()...)
				for _, x := range d.answers(min(20+nodes, 120)) {
					b.take(x.node, x.reply)
				}
			}
		}
	}
}

// R2: the same row of calls is answered the same.
func TestAskedAgain(t *testing.T) {
	for seed := range uint64(30) {
		var answers [2]string
		for k := range answers {
			d := drawing{newDice(6000 + seed), 12, 3}
			a := New(d.row(), 500)
			for _, x := range d.answers(60) {
				answers[k] += fmt.Sprint(a.Take(x.node, x.reply), tells(a), a.Over(uint64(d.IntN(1000))))
			}
		}
		if answers[0] != answers[1] {
			t.Fatalf("%s\nand %s", answers[0], answers[1])
		}
	}
}

// What is drawn reaches what it is drawn for: each answer that there is, many times.
func TestDrawnReach(t *testing.T) {
	reached := map[string]int{}
	for seed := range uint64(100) {
		d := drawing{newDice(7000 + seed), 6, 3}
		a := New(d.row(), 500)
		for _, x := range d.answers(30) {
			reached[fmt.Sprint("Take ", a.Take(x.node, x.reply))]++
			reached[fmt.Sprint("Over ", a.Over(499))]++
			reached[fmt.Sprint("Yes ", min(3, a.Yes()))]++
			best, live, there := a.Best()
			reached[fmt.Sprint("Best ", best.Kind, live, there)]++
			reached[fmt.Sprint("Behind ", min(3, len(a.Behind())))]++
		}
	}
	for _, answer := range []string{"Take true", "Take false", "Over true", "Over false", "Yes 0", "Yes 1", "Yes 2", "Yes 3", "Best 0 false false", "Best 1 false true", "Best 2 false true", "Best 3 false true", "Best 3 true true", "Behind 0", "Behind 1", "Behind 2", "Behind 3"} {
		if reached[answer] < 20 {
			t.Errorf("%s: %d times; all: %v", answer, reached[answer], slices.Sorted(maps.Keys(reached)))
		}
	}
}
