package hint

import (
	"fmt"
	"maps"
	"math"
	"slices"
	"strings"
	"testing"
	"unsafe"

	"tattler/api"
	"tattler/ring"
)

// below is the nodes from 0 on.
func below(n int) []uint8 {
	l := make([]uint8, n)
	for i := range l {
		l[i] = uint8(i)
	}
	return l
}

// expect lays what a call answered against what was reckoned by hand.
func expect[T comparable](t *testing.T, b *both, got, want T) {
	t.Helper()
	if got != want {
		t.Fatalf("%s: %v, not %v", b.calls, got, want)
	}
}

// expectAll lays all hints against a row that was written by hand.
func expectAll(t *testing.T, b *both, want ...api.Hint) {
	t.Helper()
	if got := b.hints.All(); !slices.Equal(got, want) {
		t.Fatalf("%s: %v, not %v", b.calls, got, want)
	}
	expect(t, b, b.hints.Len(), len(want))
}

// expectSends likewise what is missing.
func expectSends(t *testing.T, b *both, got []api.Send, want ...api.Send) {
	t.Helper()
	if !slices.Equal(got, want) {
		t.Fatalf("%s: %v, not %v", b.calls, got, want)
	}
}

// fill is hints with room for n, and a Tomb of each of n keys at the Phys 5.
func fill(t *testing.T, n int) *both {
	t.Helper()
	b := newBoth(t, n)
	for i := range n {
		expect(t, b, b.add(tomb(keyOf(i), at(5, 0, 0))), api.OK)
	}
	return b
}

// P20.1: the chapter's example.
func TestExample(t *testing.T) {
	h := newHints(t, 1)
	if e := h.Add(tomb("a", at(5, 0, 0))); e != api.OK {
		t.Fatal(e)
	}
	if e := h.Add(tomb("b", at(5, 0, 0))); e != api.ErrFull {
		t.Fatal(e)
	}
	if h.Ack("a", at(4, 0, 0), 1) {
		t.Fatal("acked at (4)")
	}
	if !h.Ack("a", at(5, 0, 0), 1) {
		t.Fatal("not acked at (5)")
	}
	if l := h.All(); len(l) != 1 || l[0] != (api.Hint{Rec: tomb("a", at(5, 0, 0)), Acked: 2}) {
		t.Fatal(l)
	}
	if n := h.Settle([]uint8{1}); n != 1 || h.Len() != 0 || len(h.All()) != 0 {
		t.Fatal(n, h.Len(), h.All())
	}
}

// P20.1: New at all edges: ErrArg, and no hints, wherever n is not from 1 to 64; else room for just n.
func TestNew(t *testing.T) {
	for _, n := range []int{math.MinInt, math.MinInt + 1, math.MinInt32, -256, -65, -64, -63, -2, -1, 0, 65, 66, 127, 128, 129, 192, 255, 256, 257, 320, 1 << 16, 1<<16 + 1, math.MaxInt32, math.MaxUint32, math.MaxUint32 + 2, math.MaxUint32 + 65, math.MaxInt - 1, math.MaxInt} {
		if h, e := New(n); h != nil || e != api.ErrArg {
			t.Errorf("New(%d): %v, %d", n, h, e)
		}
	}
	for n := 1; n <= 64; n++ {
		b := fill(t, n)
		expect(t, b, b.add(marker("over", at(9, 0, 0))), api.ErrFull)
		expect(t, b, b.hints.Len(), n)
	}
}

// bad are records that may not be, or are Values, of a key that may be wherever it isn't the key that is wrong.
func bad(key string) []api.Rec {
	var l []api.Rec
	change := func(f func(r *api.Rec)) {
		for _, r := range []api.Rec{marker(key, at(7, 1, 2)), tomb(key, at(7, 1, 2))} {
			f(&r)
			l = append(l, r)
		}
	}
	for _, wrong := range []string{"", strings.Repeat("k", 251), strings.Repeat("k", 1000), " ", key + " ", key + "\n", "\r" + key, key + "\x00", key + "\x1f" + key, key + "\x7f"} {
		change(func(r *api.Rec) { r.Key = wrong })
	}
	for _, kind := range []uint8{0, 3, 4, 128, 129, 130, 255} {
		change(func(r *api.Rec) { r.Kind = kind })
	}
	for _, body := range []string{"x", "\x00", strings.Repeat("x", 1024), strings.Repeat("x", 1025)} {
		change(func(r *api.Rec) { r.Body = body })
	}
	for _, flags := range []uint32{1, math.MaxUint32} {
		change(func(r *api.Rec) { r.Flags = flags })
	}
	for _, exp := range []uint64{1, api.MaxTime, api.MaxTime + 1, math.MaxUint64} {
		change(func(r *api.Rec) { r.Expiry = exp })
	}
	for _, phys := range []uint64{api.MaxTime + 1, 1 << 62, math.MaxUint64} {
		change(func(r *api.Rec) { r.Stamp.Phys = phys })
	}
	for _, node := range []uint8{64, 65, 128, 255} {
		change(func(r *api.Rec) { r.Stamp.Node = node })
	}
	return append(l, api.Rec{},
		api.Rec{Key: key, Stamp: at(7, 1, 2), Kind: api.Value},
		api.Rec{Key: key, Stamp: at(7, 1, 2), Kind: api.Value, Flags: 3, Expiry: 4, Body: "xy"},
		api.Rec{Key: key, Stamp: at(0, 0, 0), Kind: api.Value},
		api.Rec{Key: key, Stamp: at(api.MaxTime, math.MaxUint32, 63), Kind: api.Value, Body: "x"},
		api.Rec{Key: key, Stamp: at(7, 1, 2), Kind: api.Value, Body: strings.Repeat("x", 1025)},
		api.Rec{Key: key, Stamp: at(7, 1, 2), Kind: api.Value, Expiry: api.MaxTime + 1})
}

// P20.1: Add of a record that may not be, and of a Value: ErrArg, and nothing changes, where there are no hints, where its key has one that stands ahead of it or behind it, and where there is no room left (ErrArg is named ahead of ErrFull, and ahead of what is OK).
func TestMayNotBe(t *testing.T) {
	for _, r := range bad("a") {
		for _, n := range []int{1, 2, 64} {
			b := newBoth(t, n)
			expect(t, b, b.add(r), api.ErrArg)
			expectAll(t, b)
		}
		for _, there := range []api.Rec{marker("a", at(0, 0, 0)), tomb("a", at(7, 1, 2)), tomb("a", at(api.MaxTime, math.MaxUint32, 63)), marker("b", at(7, 1, 2)), tomb("b", at(9, 0, 0))} {
			for _, n := range []int{1, 2} {
				b := newBoth(t, n)
				b.add(there)
				b.ack(there.Key, there.Stamp, 4)
				expect(t, b, b.add(r), api.ErrArg)
				expectAll(t, b, api.Hint{Rec: there, Acked: 16})
			}
		}
	}
}

// P20.1: Add at the edges of what may be: every byte of a key, its length, the greatest stamps, both kinds.
func TestMayBe(t *testing.T) {
	keys := []string{"a", strings.Repeat("k", 249), strings.Repeat("k", 250), "!", "~", "\x80", "\xff\xfe", "é", "set"}
	for x := range 256 {
		key := "a" + string([]byte{byte(x)}) + "b"
		if x > 32 && x != 127 {
			keys = append(keys, key)
			continue
		}
		b := newBoth(t, 3)
		expect(t, b, b.add(tomb(key, at(1, 0, 0))), api.ErrArg)
	}
	for _, key := range keys {
		for _, s := range []api.Stamp{{}, at(api.MaxTime, 0, 0), at(0, math.MaxUint32, 0), at(0, 0, 63), at(api.MaxTime, math.MaxUint32, 63)} {
			for _, r := range []api.Rec{marker(key, s), tomb(key, s)} {
				b := newBoth(t, 1)
				expect(t, b, b.add(r), api.OK)
				expectAll(t, b, api.Hint{Rec: r})
			}
		}
	}
}

// rising are records of a key, each behind the one ahead of it in this row.
func rising(key string) []api.Rec {
	var l []api.Rec
	for _, s := range []api.Stamp{{}, at(0, 0, 1), at(0, 0, 63), at(0, 1, 0), at(0, 1, 63), at(0, math.MaxUint32, 63), at(1, 0, 0), at(1, 0, 63), at(5, 3, 2), at(5, 3, 3), at(5, 4, 0), at(6, 0, 0), at(256, 0, 0), at(1<<32, 0, 0), at(api.MaxTime, 0, 0), at(api.MaxTime, math.MaxUint32, 63)} {
		l = append(l, marker(key, s), tomb(key, s))
	}
	return l
}

// P20.1, P20.2: Add of a key that has a hint already: what stands behind it takes its place, and nobody has it; what stands ahead of it, or is the very same, is OK and changes nothing; so too where there is no room left.
func TestAddOfAKeyThatIsThere(t *testing.T) {
	row := rising("b")
	for i, had := range row {
		for j, r := range row {
			for _, n := range []int{1, 3, 4, 64} {
				b := newBoth(t, n)
				want := []api.Hint{{Rec: had, Acked: 1<<63 + 1<<5 + 1}}
				if n >= 3 {
					b.add(tomb("a", at(5, 0, 0)))
					b.add(tomb("c", at(5, 0, 0)))
					b.ack("c", at(5, 0, 0), 1)
					want = []api.Hint{{Rec: tomb("a", at(5, 0, 0))}, want[0], {Rec: tomb("c", at(5, 0, 0)), Acked: 2}}
				}
				b.add(had)
				for _, node := range []uint8{0, 5, 63} {
					expect(t, b, b.ack("b", had.Stamp, node), true)
				}
				if j > i {
					want[len(want)/2] = api.Hint{Rec: r}
				}
				expect(t, b, b.add(r), api.OK)
				expectAll(t, b, want...)
				expect(t, b, b.ack("b", r.Stamp, 5), j > i)
			}
		}
	}
}

// P20.1, P20.3: Add of a new key where there are n already: ErrFull, and nothing changes; when one is gone, there is room for one.
func TestFull(t *testing.T) {
	for _, n := range []int{1, 2, 3, 8, 63, 64} {
		b := fill(t, n)
		want := b.hints.All()
		for _, key := range []string{"!", "a", keyOf(n), keyOf(n + 1), "~", strings.Repeat("~", 250)} {
			for _, r := range rising(key) {
				expect(t, b, b.add(r), api.ErrFull)
			}
		}
		expectAll(t, b, want...)
		// A later one of a key that is there needs no room, and makes none.
		expect(t, b, b.add(tomb(keyOf(n-1), at(6, 0, 0))), api.OK)
		expect(t, b, b.add(marker("!", at(6, 0, 0))), api.ErrFull)
		expect(t, b, b.ack(keyOf(n-1), at(6, 0, 0), 9), true)
		expect(t, b, b.settle(9), 1)
		expect(t, b, b.hints.Len(), n-1)
		expect(t, b, b.add(marker("!", at(6, 0, 0))), api.OK)
		expect(t, b, b.add(marker(keyOf(n-1), at(7, 0, 0))), api.ErrFull)
		expect(t, b, b.hints.Len(), n)
	}
}

// P20.1: which error is told where more than one could be: ErrArg ahead of ErrFull, and of a key that has a hint neither.
func TestFirstError(t *testing.T) {
	b := fill(t, 2)
	for _, r := range bad("new") {
		expect(t, b, b.add(r), api.ErrArg)
	}
	for _, r := range bad(keyOf(0)) {
		expect(t, b, b.add(r), api.ErrArg)
	}
	expect(t, b, b.add(marker("new", at(7, 1, 2))), api.ErrFull)
	expect(t, b, b.add(marker(keyOf(0), at(7, 1, 2))), api.OK)
	expect(t, b, b.add(marker(keyOf(0), at(1, 1, 2))), api.OK)
	var none *Hints
	for _, r := range append(bad("a"), tomb("a", at(1, 0, 0))) {
		expect(t, b, none.Add(r), api.ErrArg)
	}
}

// P20.1: Ack with a stamp ahead of the hint's, the same and behind it, by each part of a stamp, also by stamps that no record may have.
func TestAckStamps(t *testing.T) {
	var stamps []api.Stamp
	for _, r := range rising("k") {
		stamps = append(stamps, r.Stamp)
	}
	stamps = slices.Compact(stamps)
	for i, s := range stamps {
		for _, kind := range []uint8{api.Marker, api.Tomb} {
			for j, told := range stamps {
				b := newBoth(t, 1)
				b.add(api.Rec{Key: "k", Stamp: s, Kind: kind})
				expect(t, b, b.ack("k", told, 7), j >= i)
				expect(t, b, b.hints.All()[0].Acked, map[bool]uint64{true: 1 << 7}[j >= i])
			}
			b := newBoth(t, 1)
			b.add(api.Rec{Key: "k", Stamp: s, Kind: kind})
			expect(t, b, b.ack("k", at(math.MaxUint64, math.MaxUint32, 255), 0), true)
			expect(t, b, b.ack("k", at(api.MaxTime+1, 0, 0), 1), true)
			expect(t, b, b.ack("k", at(s.Phys, s.Logical, 64), 2), true)
			expect(t, b, b.ack("k", at(s.Phys, s.Logical, 255), 3), true)
			expectAll(t, b, api.Hint{Rec: api.Rec{Key: "k", Stamp: s, Kind: kind}, Acked: 15})
		}
	}
}

// P20.1: Ack by each node there can be: a bit each, node 0's the lowest, node 63's the highest; by a node above 63 it is false and nothing changes; by one that has it already, too.
func TestAckNodes(t *testing.T) {
	s := at(5, 3, 2)
	for node := range 256 {
		b := newBoth(t, 2)
		b.add(marker("a", s))
		b.add(marker("b", s))
		expect(t, b, b.ack("b", s, uint8(node)), node < 64)
		want := uint64(0)
		if node < 64 {
			want = uint64(math.Pow(2, float64(node)))
		}
		for range 2 {
			expectAll(t, b, api.Hint{Rec: marker("a", s)}, api.Hint{Rec: marker("b", s), Acked: want})
			expect(t, b, b.ack("b", s, uint8(node)), false)
			expect(t, b, b.ack("b", at(9, 0, 0), uint8(node)), false)
			expect(t, b, b.ack("b", at(1, 0, 0), uint8(node)), false)
		}
	}
	b := newBoth(t, 1)
	b.add(tomb("a", s))
	for i, node := range []uint8{63, 0, 62, 1} {
		expect(t, b, b.ack("a", s, node), true)
		expectAll(t, b, api.Hint{Rec: tomb("a", s), Acked: []uint64{1 << 63, 1<<63 + 1, 3<<62 + 1, 3<<62 + 3}[i]})
	}
	for node := range 256 {
		expect(t, b, b.ack("a", s, uint8(node)), node >= 2 && node <= 61)
	}
	expectAll(t, b, api.Hint{Rec: tomb("a", s), Acked: math.MaxUint64})
}

// P20.1: Ack of a key without a hint: none yet, of neighbours of those that there are, of one that is gone, of one that was refused.
func TestAckWithoutHint(t *testing.T) {
	late := at(math.MaxUint64, math.MaxUint32, 255)
	b := newBoth(t, 2)
	expect(t, b, b.ack("b", late, 1), false)
	b.add(tomb("bb", at(5, 0, 0)))
	b.add(tomb("d", at(5, 0, 0)))
	b.add(tomb("e", at(5, 0, 0)))
	want := b.hints.All()
	for _, key := range []string{"", "b", "bba", "ba", "bc", "c", "dd", "D", "e", "a b", "bb\x00", strings.Repeat("b", 300)} {
		expect(t, b, b.ack(key, late, 1), false)
		expect(t, b, b.ack(key, at(0, 0, 0), 1), false)
	}
	expectAll(t, b, want...)
	expect(t, b, b.ack("d", late, 1), true)
	expect(t, b, b.settle(1), 1)
	expect(t, b, b.ack("d", late, 2), false)
	expect(t, b, b.ack("bb", late, 2), true)
}

// P20.1: a later one of a key is acked anew, and not by a stamp that was enough for the one ahead of it.
func TestAckOfALaterOne(t *testing.T) {
	b := newBoth(t, 1)
	b.add(marker("a", at(5, 0, 0)))
	expect(t, b, b.ack("a", at(5, 0, 0), 3), true)
	b.add(tomb("a", at(5, 0, 0)))
	expectAll(t, b, api.Hint{Rec: tomb("a", at(5, 0, 0))})
	expect(t, b, b.ack("a", at(5, 0, 0), 3), true)
	b.add(marker("a", at(5, 0, 1)))
	expectAll(t, b, api.Hint{Rec: marker("a", at(5, 0, 1))})
	expect(t, b, b.ack("a", at(5, 0, 0), 3), false)
	expect(t, b, b.settle(3), 0)
	expect(t, b, b.ack("a", at(5, 0, 1), 3), true)
	expect(t, b, b.settle(3), 1)
}

// P20.1: owners that were reckoned apart once, so that the reckoning of these tests hangs on nothing but them; of some of these keys the greater number comes first, of some the lesser one.
func TestOwnersReckoned(t *testing.T) {
	for _, c := range []struct {
		key    string
		up     []uint8
		owners []uint8
	}{
		{"a", []uint8{0, 1, 2, 3}, []uint8{3, 1}},
		{"a", []uint8{2, 1, 64, 0, 1, 255, 3, 3}, []uint8{3, 1}},
		{"a", []uint8{9}, []uint8{9}},
		{"a", []uint8{9, 9, 73}, []uint8{9}},
		{"a", []uint8{64, 255}, nil},
		{"a", nil, nil},
	} {
		if got := slowOwners(c.key, c.up); !slices.Equal(got, c.owners) {
			t.Errorf("the reckoning: %q among %d: %d, not %d", c.key, c.up, got, c.owners)
		}
		b := newBoth(t, 3)
		r := tomb(c.key, at(5, 0, 0))
		b.add(r)
		var want []api.Send
		for _, node := range c.owners {
			want = append(want, api.Send{To: node, Rec: r})
		}
		expectSends(t, b, b.missing(c.up...), want...)
	}
	rise, fall := 0, 0
	for i := range 40 {
		l := slowOwners(keyOf(i), below(64))
		if !slices.Equal(l, ring.Owners(keyOf(i), below(64))) {
			t.Fatalf("of %q: %d", keyOf(i), l)
		}
		if l[0] < l[1] {
			rise++
		} else {
			fall++
		}
	}
	if rise < 5 || fall < 5 {
		t.Errorf("%d rise and %d fall", rise, fall)
	}
}

// ups are rows of nodes that are up: none, one, many, several times, with such above 63 among them.
func ups() [][]uint8 {
	return [][]uint8{
		nil, {}, {0}, {1}, {62}, {63}, {64}, {255}, {64, 65, 127, 128, 255}, {3, 3}, {3, 3, 3, 64, 3}, {0, 63}, {63, 0}, {63, 0, 63, 0}, {1, 2, 3}, {3, 2, 1},
		{1, 65, 2, 66, 3, 67}, {255, 7, 200, 7, 100, 5}, below(3), below(5), below(63), below(64), below(65), below(256), append(below(64), below(64)...), slices.Repeat([]uint8{9, 4}, 100),
	}
}

// P20.1: Missing for many rows of nodes that are up, while owners tell one by one that they have it.
func TestMissing(t *testing.T) {
	for _, up := range ups() {
		b := newBoth(t, 64)
		expectSends(t, b, b.missing(up...))
		for i := range 20 {
			b.add(marker(keyOf(i), at(uint64(i), 3, 0)))
		}
		left := b.missing(up...)
		expect(t, b, len(left), 20*len(slowOwners("any", up)))
		for len(left) > 0 {
			i := len(left) * 3 / 7
			x := left[i]
			expect(t, b, b.ack(x.Rec.Key, x.Rec.Stamp, x.To), true)
			left = slices.Delete(slices.Clone(left), i, i+1)
			expectSends(t, b, b.missing(up...), left...)
		}
		expectSends(t, b, b.missing(up...))
		// What all have is sent nobody, but it is still there, till it is settled.
		expect(t, b, b.hints.Len(), 20)
	}
}

// P20.1: Missing by rising keys, whatever the order in which they were added, and of each its owners in order.
func TestMissingRises(t *testing.T) {
	keys := []string{"!", "0", "10", "1", "9", "A", "a", "aa", "ab", "b", "~", "\x80", "é", "\xff", strings.Repeat("a", 250)}
	sorted := slices.Sorted(slices.Values(keys))
	up := []uint8{40, 3, 17, 0, 63, 8}
	for seed := range uint64(30) {
		d := newDice(300 + seed)
		b := newBoth(t, 20)
		for _, i := range d.Perm(len(keys)) {
			b.add(tomb(keys[i], at(5, 0, 0)))
		}
		var want []api.Send
		var all []api.Hint
		for _, key := range sorted {
			for _, node := range slowOwners(key, up) {
				want = append(want, api.Send{To: node, Rec: tomb(key, at(5, 0, 0))})
			}
			all = append(all, api.Hint{Rec: tomb(key, at(5, 0, 0))})
		}
		expectSends(t, b, b.missing(up...), want...)
		expectAll(t, b, all...)
	}
}

// P20.1, P20.2: Settle for many rows of nodes that are up: of hints of which none of their owners has them, all but one, and all; without owners they stay.
func TestSettle(t *testing.T) {
	for _, up := range ups() {
		owners := slowOwners("k", up)
		others := slices.DeleteFunc(below(64), func(n uint8) bool { return slices.Contains(owners, n) })
		for _, kind := range []uint8{api.Marker, api.Tomb} {
			r := api.Rec{Key: "k", Stamp: at(5, 0, 0), Kind: kind}
			b := newBoth(t, 1)
			expect(t, b, b.settle(up...), 0)
			b.add(r)
			expect(t, b, b.settle(up...), 0)
			// That all the others have it is nothing to the owners.
			for _, node := range others {
				expect(t, b, b.ack("k", at(5, 0, 0), node), true)
			}
			expect(t, b, b.settle(up...), 0)
			for i, node := range owners {
				expect(t, b, b.hints.Len(), 1)
				expect(t, b, b.ack("k", at(5, 0, 0), node), true)
				if i < len(owners)-1 {
					expect(t, b, b.settle(up...), 0)
				}
			}
			gone := min(1, len(owners))
			expect(t, b, b.settle(up...), gone)
			expect(t, b, b.hints.Len(), 1-gone)
			expect(t, b, b.settle(up...), 0)
			expect(t, b, b.settle(below(64)...), 1-gone)
		}
	}
}

// P20.1: of two owners either one alone is not enough, but it is where the other one isn't up.
func TestSettleOfOneOwner(t *testing.T) {
	for i := range 20 {
		key := keyOf(i)
		owners := slowOwners(key, below(64))
		for k, node := range owners {
			b := newBoth(t, 1)
			b.add(tomb(key, at(5, 0, 0)))
			b.ack(key, at(5, 0, 0), node)
			expect(t, b, b.settle(below(64)...), 0)
			expect(t, b, b.settle(owners...), 0)
			expect(t, b, b.settle(owners[1-k]), 0)
			expect(t, b, b.settle(node), 1)
			expectAll(t, b)
		}
	}
}

// P20.1: how many Settle says are gone, where all, some and none are; the others stay as they are, by rising keys.
func TestSettleOfMany(t *testing.T) {
	up := below(10)
	for _, n := range []int{1, 2, 3, 17, 63, 64} {
		for _, every := range []int{1, 2, 3, 100} {
			b := fill(t, n)
			var want []api.Hint
			gone := 0
			for i, x := range b.hints.All() {
				owners := slowOwners(x.Rec.Key, up)
				b.ack(x.Rec.Key, x.Rec.Stamp, owners[0])
				x.Acked = 1 << owners[0]
				if i%every == 0 {
					b.ack(x.Rec.Key, x.Rec.Stamp, owners[1])
					gone++
					continue
				}
				want = append(want, x)
			}
			expect(t, b, b.settle(), 0)
			expect(t, b, b.settle(64, 100), 0)
			expect(t, b, b.settle(up...), gone)
			expectAll(t, b, want...)
			expect(t, b, b.settle(up...), 0)
			expectAll(t, b, want...)
		}
	}
}

// P20.2: a hint that is gone may be added again, also one that stands ahead of what was gone, and nobody has it then.
func TestAddedAgain(t *testing.T) {
	for _, s := range []api.Stamp{at(1, 0, 0), at(5, 0, 0), at(9, 0, 0)} {
		b := newBoth(t, 1)
		b.add(tomb("a", at(5, 0, 0)))
		b.ack("a", at(5, 0, 0), 8)
		b.ack("a", at(5, 0, 0), 9)
		expect(t, b, b.settle(8), 1)
		expect(t, b, b.add(marker("a", s)), api.OK)
		expectAll(t, b, api.Hint{Rec: marker("a", s)})
		expect(t, b, b.settle(8), 0)
		expect(t, b, b.settle(9), 0)
	}
}

// P20.2: whatever is called, but for a Settle whose owners all have acked it and a later one of its key, a hint stays.
func TestKept(t *testing.T) {
	s := at(5, 3, 2)
	owners := slowOwners("a", below(64))
	others := slices.DeleteFunc(below(64), func(n uint8) bool { return slices.Contains(owners, n) })
	b := newBoth(t, 2)
	b.add(marker("a", s))
	want := api.Hint{Rec: marker("a", s)}
	for range 3 {
		for i := range 100 {
			b.add(tomb(keyOf(i), at(9, 0, 0)))
		}
		b.add(marker("a", at(5, 3, 1)))
		b.add(tomb("a", at(5, 2, 63)))
		b.add(tomb("a", at(4, math.MaxUint32, 63)))
		b.add(marker("a", s))
		b.ack("a", at(5, 3, 1), owners[0])
		b.ack("a", at(5, 3, 1), owners[1])
		b.settle(below(64)...)
		b.settle(owners[0])
		b.settle(owners[1])
		b.settle()
		b.settle(below(256)[64:]...)
		b.missing(below(64)...)
		if i := slices.Index(b.hints.All(), want); i < 0 {
			t.Fatalf("%s: %v", b.calls, b.hints.All())
		}
	}
	for _, node := range others {
		b.ack("a", s, node)
	}
	expect(t, b, b.ack("a", s, owners[1]), true)
	expect(t, b, b.settle(below(64)...), 0)
	expect(t, b, b.settle(owners...), 0)
	expect(t, b, b.settle(owners[0], others[0]), 0)
	expect(t, b, b.ack("a", s, owners[0]), true)
	expect(t, b, b.settle(below(64)...), 1)
}

// P20.1: All and Len behind each call of a row that was reckoned by hand.
func TestAll(t *testing.T) {
	b := newBoth(t, 3)
	expectAll(t, b)
	b.add(tomb("m", at(5, 0, 0)))
	expectAll(t, b, api.Hint{Rec: tomb("m", at(5, 0, 0))})
	b.add(marker("a", at(9, 1, 63)))
	expectAll(t, b, api.Hint{Rec: marker("a", at(9, 1, 63))}, api.Hint{Rec: tomb("m", at(5, 0, 0))})
	b.ack("m", at(6, 0, 0), 0)
	b.ack("m", at(6, 0, 0), 63)
	b.add(tomb("z", at(0, 0, 0)))
	b.add(tomb("zz", at(0, 0, 0)))
	expectAll(t, b, api.Hint{Rec: marker("a", at(9, 1, 63))}, api.Hint{Rec: tomb("m", at(5, 0, 0)), Acked: 0x8000000000000001}, api.Hint{Rec: tomb("z", at(0, 0, 0))})
	b.settle(63, 0)
	expectAll(t, b, api.Hint{Rec: marker("a", at(9, 1, 63))}, api.Hint{Rec: tomb("z", at(0, 0, 0))})
	b.add(tomb("a", at(9, 1, 63)))
	b.ack("a", at(9, 1, 63), 4)
	expectAll(t, b, api.Hint{Rec: tomb("a", at(9, 1, 63)), Acked: 16}, api.Hint{Rec: tomb("z", at(0, 0, 0))})
	b.ack("z", at(0, 0, 0), 5)
	b.settle(4)
	expectAll(t, b, api.Hint{Rec: tomb("z", at(0, 0, 0)), Acked: 32})
	b.settle(5)
	expectAll(t, b)
}

// spoil changes all of a list, its spare room too; what it answers tells whether all of it is as it left it.
func spoil[T comparable](l []T, with T) func() bool {
	room := l[:cap(l)]
	for i := range room {
		room[i] = with
	}
	return func() bool {
		return !slices.ContainsFunc(room, func(x T) bool { return x != with })
	}
}

// R3: what Missing and All answered may be changed, its spare room too, without a change of the hints, and is not changed by later calls.
func TestAnswersStandApart(t *testing.T) {
	wrong := tomb("wrong", at(99, 99, 9))
	for _, n := range []int{1, 2, 3, 5, 8, 33, 64} {
		b := fill(t, n)
		up := below(4)
		all, sends := b.hints.All(), b.missing(up...)
		allWas, sendsWas := slices.Clone(all), slices.Clone(sends)
		spoilt := []func() bool{
			spoil(b.hints.All(), api.Hint{Rec: wrong, Acked: 99}),
			spoil(b.missing(up...), api.Send{To: 99, Rec: wrong}),
		}
		b.check()
		b.missing(up...)
		for _, x := range sendsWas {
			b.ack(x.Rec.Key, x.Rec.Stamp, x.To)
			b.missing(up...)
		}
		for i := range n {
			b.add(marker(keyOf(i), at(6, 0, 0)))
			b.ack(keyOf(i), at(6, 0, 0), 7)
		}
		spoilt = append(spoilt, spoil(b.hints.All(), api.Hint{Rec: wrong}), spoil(b.missing(up...), api.Send{Rec: wrong}))
		b.settle(7)
		for i := range n {
			b.add(tomb("k"+keyOf(i)[:1], at(6, 0, 0)))
		}
		if !slices.Equal(all, allWas) || !slices.Equal(sends, sendsWas) {
			t.Fatalf("%d: what was answered has changed", n)
		}
		for i, still := range spoilt {
			if !still() {
				t.Fatalf("%d: what was answered, and changed, has changed: %d", n, i)
			}
		}
	}
}

// R3: nodes that are handed in, and their spare room, are left as they are, and may be changed afterwards.
func TestUpStandsApart(t *testing.T) {
	for _, row := range ups() {
		b := newBoth(t, 64)
		for i := range 12 {
			b.add(tomb(keyOf(i), at(5, 0, 0)))
		}
		room := append(slices.Clone(row), 40, 41, 42, 43)
		was := slices.Clone(room)
		up := room[:len(row)]
		sends := b.missing(up...)
		sendsWas := slices.Clone(sends)
		for _, x := range sends[:len(sends)/2] {
			b.ack(x.Rec.Key, x.Rec.Stamp, x.To)
		}
		b.settle(up...)
		if !slices.Equal(room, was) {
			t.Fatalf("%d has become %d", was, room)
		}
		for i := range room {
			room[i] = 17
		}
		b.check()
		b.missing(was[:len(row)]...)
		if !slices.Equal(sends, sendsWas) {
			t.Fatalf("%d: what was answered has changed", row)
		}
	}
}

// R3: keys that are handed in aren't kept, and those that are answered share no memory, with nothing.
func TestTextsStandApart(t *testing.T) {
	memory := []byte(strings.Repeat("a", 20) + strings.Repeat("b", 20))
	b := newBoth(t, 2)
	h := b.hints
	a, other := unsafe.String(&memory[0], 20), unsafe.String(&memory[20], 20)
	h.Add(tomb(a, at(5, 0, 0)))
	h.Add(tomb(other, at(5, 0, 0)))
	h.Add(tomb(a, at(6, 0, 0)))
	h.Ack(a, at(6, 0, 0), 7)
	var texts []string
	collect := func() {
		for _, x := range h.All() {
			texts = append(texts, x.Rec.Key)
		}
		for _, x := range h.Missing(below(5)) {
			texts = append(texts, x.Rec.Key)
		}
	}
	collect()
	collect()
	if len(texts) != 12 {
		t.Fatal(texts)
	}
	for i, x := range texts {
		p := uintptr(unsafe.Pointer(unsafe.StringData(x)))
		if begin := uintptr(unsafe.Pointer(&memory[0])); p >= begin && p < begin+uintptr(len(memory)) {
			t.Errorf("%d is memory that was handed in", i)
		}
		for j, y := range texts[:i] {
			if unsafe.StringData(x) == unsafe.StringData(y) {
				t.Errorf("%d and %d share their memory", j, i)
			}
		}
	}
	for i := range memory {
		memory[i] = 'z'
	}
	want := []api.Hint{{Rec: tomb(strings.Repeat("a", 20), at(6, 0, 0)), Acked: 1 << 7}, {Rec: tomb(strings.Repeat("b", 20), at(5, 0, 0))}}
	expectAll(t, b, want...)
}

// R2: two Hints side by side: neither changes the other one.
func TestTwoHints(t *testing.T) {
	a, b := newBoth(t, 1), newBoth(t, 2)
	a.add(tomb("a", at(5, 0, 0)))
	expectAll(t, b)
	b.add(marker("a", at(6, 0, 0)))
	b.ack("a", at(6, 0, 0), 1)
	expectAll(t, a, api.Hint{Rec: tomb("a", at(5, 0, 0))})
	expect(t, a, a.settle(1), 0)
	expect(t, a, a.add(tomb("b", at(5, 0, 0))), api.ErrFull)
	expect(t, b, b.add(tomb("b", at(5, 0, 0))), api.OK)
	expect(t, b, b.settle(1), 1)
	expectAll(t, a, api.Hint{Rec: tomb("a", at(5, 0, 0))})
	for seed := range uint64(30) {
		d := drawing{newDice(400 + seed), 6, 4, 3}
		two := [2]*both{newBoth(t, 1+d.IntN(6)), newBoth(t, 1+d.IntN(6))}
		for range 150 {
			k := d.IntN(2)
			d.call(two[k], 40)
			two[1-k].check()
		}
	}
}

// R2: the same row of calls is answered the same.
func TestAskedAgain(t *testing.T) {
	for seed := range uint64(10) {
		var answers [2]string
		for k := range answers {
			d := drawing{newDice(500 + seed), 12, 5, 3}
			h := newHints(t, 8)
			for range 200 {
				up := d.up()
				answers[k] += fmt.Sprint(h.Add(d.rec()), h.Ack(d.key(), d.stamp(), d.node()), h.Missing(up), h.Settle(up), h.All(), h.Len())
			}
		}
		if answers[0] != answers[1] {
			t.Fatalf("%d: %s, then %s", seed, answers[0], answers[1])
		}
	}
}

// P20.1: nil hints: ErrArg, false, none, 0.
func TestNil(t *testing.T) {
	var h *Hints
	for range 2 {
		for _, r := range append(rising("a"), bad("a")...) {
			if e := h.Add(r); e != api.ErrArg {
				t.Errorf("Add of %v: %d", r, e)
			}
			for _, node := range []uint8{0, 1, 63, 64, 255} {
				if h.Ack(r.Key, r.Stamp, node) {
					t.Errorf("Ack of %v", r)
				}
			}
		}
		for _, up := range ups() {
			if l, n := h.Missing(up), h.Settle(up); len(l) != 0 || n != 0 {
				t.Errorf("of %d: %v, %d", up, l, n)
			}
		}
		if l, n := h.All(), h.Len(); len(l) != 0 || n != 0 {
			t.Errorf("%v, %d", l, n)
		}
	}
}

// kindsOfCalls are the calls of which every row is made: two keys, two stamps, two nodes.
func kindsOfCalls() []func(b *both) {
	early, late := at(1, 0, 0), at(1, 0, 1)
	return []func(b *both){
		func(b *both) { b.add(marker("a", early)) },
		func(b *both) { b.add(tomb("a", early)) },
		func(b *both) { b.add(marker("a", late)) },
		func(b *both) { b.add(tomb("b", early)) },
		func(b *both) { b.ack("a", early, 1) },
		func(b *both) { b.ack("a", late, 1) },
		func(b *both) { b.ack("a", late, 2) },
		func(b *both) { b.ack("b", early, 2) },
		func(b *both) { b.settle(1) },
		func(b *both) { b.settle(2, 1) },
	}
}

// P20.1, P20.2, P20.3: every row of few calls, with room for one and for two; at its end all that is missing is told, and settled.
func TestEveryRow(t *testing.T) {
	kinds := kindsOfCalls()
	const calls = 5
	rows := 1
	for range calls {
		rows *= len(kinds)
	}
	for n := 1; n <= 2; n++ {
		for row := range rows {
			b := newBoth(t, n)
			for left, i := row, 0; i < calls; i++ {
				kinds[left%len(kinds)](b)
				left /= len(kinds)
			}
			b.drain(1, 2)
		}
	}
}

// drain acks all that is missing, and settles: then nothing is left, if anybody is up.
func (b *both) drain(up ...uint8) {
	b.t.Helper()
	for _, x := range b.missing(up...) {
		if !b.ack(x.Rec.Key, x.Rec.Stamp, x.To) {
			b.t.Fatalf("%s: false", b.calls)
		}
	}
	had := b.hints.Len()
	if l, n := b.missing(up...), b.settle(up...); len(l) != 0 || n != had || b.hints.Len() != 0 {
		b.t.Fatalf("%s: %v, %d, %d", b.calls, l, n, b.hints.Len())
	}
}

// P20.1, P20.2, P20.3: long rows of calls, drawn, of few keys and of many, few nodes and many, few stamps and many, of rooms from 1 to 64.
func TestDrawnRows(t *testing.T) {
	seed := uint64(1000)
	for _, n := range []int{1, 2, 3, 8, 33, 63, 64} {
		for _, keys := range []int{1, 2, 5, 20, 100} {
			for _, nodes := range []int{1, 2, 3, 8, 64} {
				seed++
				d := drawing{newDice(seed), keys, nodes, []int{1, 2, 5, 50}[seed%4]}
				b := newBoth(t, n)
				d.calls(b, 150)
				b.drain(uint8(d.IntN(64)), uint8(d.IntN(64)), 64)
			}
		}
	}
}

// P20.1, P20.2, P20.3: hints of every room, each drawn otherwise, that are emptied now and then.
func TestDrawnRooms(t *testing.T) {
	for n := 1; n <= 64; n++ {
		d := drawing{newDice(5000 + uint64(n)), 1 + (n*13)%90, 1 + (n*7)%64, 1 + n%6}
		b := newBoth(t, n)
		for range 3 {
			d.calls(b, 60)
			b.drain(append(d.up(), 5)...)
		}
	}
}

// What is drawn reaches what it is drawn for: each answer that there is, many times.
func TestDrawnReach(t *testing.T) {
	reached := map[string]int{}
	for seed := range uint64(20) {
		d := drawing{newDice(7000 + seed), 6, 4, 4}
		h := newHints(t, 4)
		for range 200 {
			r, up := d.rec(), d.up()
			reached[fmt.Sprint("Add ", int(h.Add(r)))]++
			l := h.All()
			if len(l) == 0 {
				continue
			}
			x := one(d.dice, l...)
			reached[fmt.Sprint("Ack ", h.Ack(x.Rec.Key, d.stamp(), d.node()))]++
			reached[fmt.Sprint("Missing ", min(1, len(h.Missing(up))))]++
			reached[fmt.Sprint("Settle ", min(2, h.Settle(up)))]++
		}
	}
	for _, answer := range []string{"Add 0", "Add 1", "Add 6", "Ack true", "Ack false", "Missing 0", "Missing 1", "Settle 0", "Settle 1", "Settle 2"} {
		if reached[answer] < 5 {
			t.Errorf("%s: %d times; all: %v", answer, reached[answer], slices.Sorted(maps.Keys(reached)))
		}
	}
}
