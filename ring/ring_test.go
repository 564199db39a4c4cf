package ring

import (
	"fmt"
	"slices"
	"strings"
	"testing"
	"unsafe"

	"tattler/api"
)

// allNodes are those from 0 to 63.
func allNodes() []uint8 {
	l := make([]uint8, api.MaxNodes)
	for i := range l {
		l[i] = uint8(i)
	}
	return l
}

// edgeKeys are such as may be and such as may not.
func edgeKeys() []string {
	return []string{"", "a", "b", "c", "d", "key", "\x00", "\x00\x00", "\xff\x00\x80", "a b\r\n", "ключ", strings.Repeat("k", api.MaxKey), strings.Repeat("k", api.MaxKey+1), strings.Repeat("x", 1000)}
}

// expectOwners lays Owners and Owns against what was reckoned by hand.
func expectOwners(t *testing.T, key string, nodes []uint8, want ...uint8) {
	t.Helper()
	check(t, key, nodes)
	if l := Owners(key, nodes); !slices.Equal(l, want) {
		t.Fatalf("Owners(%q, %d): %d, not %d", key, nodes, l, want)
	}
	for n := range 256 {
		if got := Owns(key, nodes, uint8(n)); got != slices.Contains(want, uint8(n)) {
			t.Fatalf("Owns(%q, %d, %d): %v", key, nodes, n, got)
		}
	}
}

// expectMoved likewise.
func expectMoved(t *testing.T, keys []string, before, after []uint8, want ...string) {
	t.Helper()
	checkMoved(t, keys, before, after)
	if l := Moved(keys, before, after); !slices.Equal(l, want) {
		t.Fatalf("Moved(%q, %d, %d): %q, not %q", keys, before, after, l, want)
	}
}

// P16.1: the chapter's examples.
func TestExamples(t *testing.T) {
	for _, key := range edgeKeys() {
		expectOwners(t, key, []uint8{7}, 7)
		expectOwners(t, key, nil)
		expectOwners(t, key, []uint8{})
		expectOwners(t, key, []uint8{3, 3}, 3)
	}
}

// The reckoning itself: chapter 1's examples.
func TestReckoning(t *testing.T) {
	if slowMix(0) != 0 || slowMix(1) != 0x5692161D100B05E5 {
		t.Errorf("%#x, %#x", slowMix(0), slowMix(1))
	}
}

// P16.1: Weight of node 0, of node 63 and of nodes above, of the empty key and of long ones: reckoned apart, once for all.
func TestWeight(t *testing.T) {
	for _, row := range []struct {
		key  string
		node uint8
		want uint64
	}{
		{"", 0, 0x2aea2ec8299df491},
		{"", 63, 0x1e3a234e0e90448b},
		{"", 64, 0xee6cfb8311811e8d},
		{"", 255, 0x16a92b230cbbd7d7},
		{"a", 0, 0xc532b8790ae57b2d},
		{"a", 3, 0xfbc4f7fa4931858e},
		{"a", 63, 0xb8329e5e526a3a8d},
		{"a", 64, 0x0f9ce2b6d6e81392},
		{"a", 255, 0x7b2f90940e60b21f},
		{"b", 0, 0xe07a2011506e37ed},
		{"\xff\x00\x80", 0, 0x15cd36e1f23b30ef},
		{strings.Repeat("k", 250), 5, 0xe203ec1b628ffcf4},
		{strings.Repeat("k", 251), 5, 0xe9277f3cb6aa8363},
		{strings.Repeat("k", 1000), 63, 0x44116f4f9099a5eb},
	} {
		if got := Weight(row.key, row.node); got != row.want {
			t.Errorf("Weight(%q, %d): %#x, not %#x", row.key, row.node, got, row.want)
		}
		if weights := slowWeights(row.key); weights[row.node] != row.want {
			t.Errorf("reckoned, Weight(%q, %d): %#x, not %#x", row.key, row.node, weights[row.node], row.want)
		}
	}
}

// P16.1: all nodes' weights for a key, those above 63 too, and no two of them the same.
func TestWeights(t *testing.T) {
	for _, key := range edgeKeys() {
		want := slowWeights(key)
		var got [256]uint64
		for n := range got {
			got[n] = Weight(key, uint8(n))
		}
		if got != want {
			t.Fatalf("of %.20q: %#x, not %#x", key, got, want)
		}
		slices.Sort(got[:])
		if unlike := len(slices.Compact(got[:])); unlike != 256 {
			t.Fatalf("of %.20q: %d unlike weights", key, unlike)
		}
	}
}

// byWeight are the nodes from 0 to 5, the heaviest first, by keys: reckoned apart, once for all.
func byWeight() map[string][]uint8 {
	return map[string][]uint8{
		"":             {2, 1, 3, 4, 0, 5},
		"a":            {3, 4, 1, 0, 2, 5},
		"b":            {2, 0, 3, 4, 1, 5},
		"c":            {2, 5, 3, 0, 1, 4},
		"d":            {4, 2, 3, 1, 0, 5},
		"key":          {0, 1, 2, 4, 5, 3},
		"\xff\x00\x80": {2, 1, 4, 3, 5, 0},
	}
}

// P16.1: owners among each of the sets of six nodes: the two heaviest of those that are there, the heaviest first.
func TestOwnersOfSix(t *testing.T) {
	for key, order := range byWeight() {
		for bits := range 1 << 6 {
			var nodes, want []uint8
			for n := range uint8(6) {
				if bits&(1<<n) != 0 {
					nodes = append(nodes, n)
				}
			}
			for _, n := range order {
				if bits&(1<<n) != 0 && len(want) < 2 {
					want = append(want, n)
				}
			}
			expectOwners(t, key, nodes, want...)
			slices.Reverse(nodes)
			expectOwners(t, key, nodes, want...)
		}
	}
}

// P16.1: owners among all from 0 to 63; the greatest weight first.
func TestOwnersOfAll(t *testing.T) {
	for _, row := range []struct {
		key  string
		want []uint8
	}{
		{"", []uint8{35, 21}},
		{"a", []uint8{3, 35}},
		{"b", []uint8{32, 50}},
		{"c", []uint8{25, 6}},
		{"d", []uint8{10, 34}},
		{"key", []uint8{7, 48}},
		{"\xff\x00\x80", []uint8{57, 30}},
		{strings.Repeat("k", 250), []uint8{0, 49}},
	} {
		expectOwners(t, row.key, allNodes(), row.want...)
	}
	for _, key := range edgeKeys() {
		check(t, key, allNodes())
		l := Owners(key, allNodes())
		for _, n := range allNodes() {
			if w := Weight(key, n); w > Weight(key, l[0]) || n != l[0] && w > Weight(key, l[1]) {
				t.Errorf("of %.20q: node %d weighs more than one of %d", key, n, l)
			}
		}
	}
}

// P16.1: of one node, each of those from 0 to 63, that one; of one above, nobody.
func TestOwnersOfOne(t *testing.T) {
	for _, key := range edgeKeys()[:6] {
		for n := range 256 {
			var want []uint8
			if n <= 63 {
				want = []uint8{uint8(n)}
			}
			for _, often := range []int{1, 2, 5} {
				nodes := slices.Repeat([]uint8{uint8(n)}, often)
				expectOwners(t, key, nodes, want...)
			}
		}
	}
}

// P16.1: of two, both, the heavier one first: each two of all nodes, in either order.
func TestOwnersOfTwo(t *testing.T) {
	for _, key := range edgeKeys()[:4] {
		for _, a := range allNodes() {
			for _, b := range allNodes()[a+1:] {
				want := []uint8{a, b}
				if Weight(key, a) < Weight(key, b) {
					slices.Reverse(want)
				}
				if x, y := Owners(key, []uint8{a, b}), Owners(key, []uint8{b, a}); !slices.Equal(x, want) || !slices.Equal(y, want) {
					t.Fatalf("of %q among %d and %d: %d, %d", key, a, b, x, y)
				}
			}
		}
	}
	expectOwners(t, "a", []uint8{0, 63}, 0, 63)
	expectOwners(t, "d", []uint8{0, 63}, 63, 0)
	expectOwners(t, "a", []uint8{63, 62}, 62, 63)
	expectOwners(t, "d", []uint8{62, 63}, 63, 62)
}

// P16.1: nodes that stand several times stand once: a second time is no second owner, and takes nobody's place.
func TestSeveralTimes(t *testing.T) {
	expectOwners(t, "a", []uint8{3, 3, 3}, 3)
	expectOwners(t, "a", []uint8{3, 3, 4}, 3, 4)
	expectOwners(t, "a", []uint8{4, 3, 3, 4}, 3, 4)
	expectOwners(t, "a", []uint8{3, 3, 5, 3}, 3, 5)
	expectOwners(t, "a", []uint8{0, 0}, 0)
	expectOwners(t, "a", []uint8{63, 63, 0, 0, 63}, 0, 63)
	for _, key := range edgeKeys() {
		expectOwners(t, key, slices.Repeat(allNodes(), 3), Owners(key, allNodes())...)
	}
}

// P16.1: nodes above 63 play no part, alone or among others, though they weigh more; 63 does.
func TestAbove(t *testing.T) {
	if Weight("", 64) < Weight("", 0) || Weight("", 64) < Weight("", 63) {
		t.Fatal("64 is lighter")
	}
	for _, key := range append(edgeKeys(), "e", "f", "g", "h", "i", "j") {
		expectOwners(t, key, []uint8{64})
		expectOwners(t, key, []uint8{255, 64, 128, 65, 64})
		expectOwners(t, key, []uint8{64, 0}, 0)
		expectOwners(t, key, []uint8{63, 64, 255}, 63)
		expectOwners(t, key, []uint8{255, 64, 63, 63}, 63)
		// 67 is 3, if but six bits of it are looked at.
		expectOwners(t, key, []uint8{67, 131, 195, 4}, 4)
		both := Owners(key, []uint8{0, 63})
		expectOwners(t, key, []uint8{64, 63, 255, 0, 200}, both...)
	}
	every := make([]uint8, 256)
	for n := range every {
		every[n] = uint8(n)
	}
	for _, key := range edgeKeys() {
		expectOwners(t, key, every, Owners(key, allNodes())...)
		expectOwners(t, key, every[64:])
		expectOwners(t, key, every[63:], 63)
	}
}

// P16.1: Owns of the first and the second owner, of one that isn't, of one that isn't among the nodes, and of one above 63 that is.
func TestOwns(t *testing.T) {
	nodes := []uint8{0, 1, 3, 4, 64, 255}
	for _, row := range []struct {
		node uint8
		want bool
	}{{3, true}, {4, true}, {1, false}, {0, false}, {2, false}, {35, false}, {63, false}, {64, false}, {67, false}, {255, false}} {
		if got := Owns("a", nodes, row.node); got != row.want {
			t.Errorf("node %d: %v", row.node, got)
		}
	}
	for _, none := range [][]uint8{nil, {}, {64}, {255, 200}} {
		for n := range 256 {
			if Owns("a", none, uint8(n)) {
				t.Errorf("%d owns a key among %d", n, none)
			}
		}
	}
	if !Owns("a", []uint8{0}, 0) || !Owns("a", []uint8{63}, 63) || Owns("a", []uint8{0}, 64) || Owns("a", []uint8{63}, 0) {
		t.Error("of one node")
	}
}

// P16.1: Moved of no keys; of keys of which some have moved and some haven't, in the order in which they stand, and as often.
func TestMoved(t *testing.T) {
	for _, none := range [][]string{nil, {}, make([]string, 0, 5)} {
		expectMoved(t, none, []uint8{1}, []uint8{2})
		expectMoved(t, none, nil, nil)
	}
	six, less := []uint8{0, 1, 2, 3, 4, 5}, []uint8{5, 4, 3, 1, 0}
	keys := []string{"key", "d", "c", "a", "b", "d", "", "a", "b", "b"}
	// Without 2: a and key are owned by others.
	expectMoved(t, keys, six, less, "d", "c", "b", "d", "", "b", "b")
	slices.Reverse(keys)
	expectMoved(t, keys, six, less, "b", "b", "", "d", "b", "c", "d")
	// Without 5: it owned c alone.
	expectMoved(t, keys, six, six[:5], "c")
	expectMoved(t, []string{"a", "c", "a", "c", "c"}, six, six[:5], "c", "c", "c")
	expectMoved(t, []string{"a", "a", "key"}, six, six[:5])
	expectMoved(t, []string{"c"}, six, six[:5], "c")
	expectMoved(t, edgeKeys(), allNodes(), nil, edgeKeys()...)
	expectMoved(t, edgeKeys(), allNodes(), allNodes())
}

// P16.1: by one key, what is moved and what isn't. The nodes by their weights for "a" are 3, 4, 1, 0, 2, 5.
func TestMovedOrNot(t *testing.T) {
	for _, row := range []struct {
		before, after []uint8
		moved         bool
	}{
		{nil, nil, false},
		{nil, []uint8{}, false},
		{[]uint8{64}, nil, false},
		{[]uint8{64}, []uint8{65, 255}, false},
		{nil, []uint8{0}, true},
		{[]uint8{}, []uint8{63}, true},
		{[]uint8{64}, []uint8{0}, true},
		{nil, []uint8{3, 4}, true},
		// One node alone.
		{[]uint8{0}, []uint8{0}, false},
		{[]uint8{0}, []uint8{0, 0}, false},
		{[]uint8{3}, []uint8{3, 64, 67}, false},
		{[]uint8{3}, []uint8{4}, true},
		{[]uint8{0}, []uint8{63}, true},
		{[]uint8{3}, []uint8{3, 4}, true},
		{[]uint8{4}, []uint8{3, 4}, true},
		{[]uint8{0}, []uint8{0, 5}, true},
		{[]uint8{3}, []uint8{4, 1}, true},
		// The same owners, however they stand, and whoever stands behind them.
		{[]uint8{3, 4}, []uint8{4, 3}, false},
		{[]uint8{0, 1}, []uint8{1, 0, 1}, false},
		{[]uint8{3, 4, 1}, []uint8{1, 4, 3}, false},
		{[]uint8{3, 4}, []uint8{0, 4, 5, 3, 2, 1}, false},
		{[]uint8{3, 4, 0, 0}, []uint8{255, 4, 5, 3}, false},
		{[]uint8{1, 0, 2}, []uint8{5, 0, 1}, false},
		// One owner is another one: the second, the first, and the second that becomes the first.
		{[]uint8{3, 1, 0}, []uint8{3, 4, 1, 0}, true},
		{[]uint8{3, 0}, []uint8{4, 0}, true},
		{[]uint8{4, 1}, []uint8{3, 4}, true},
		{[]uint8{1, 0, 2}, []uint8{1, 2}, true},
		// Both are.
		{[]uint8{3, 4}, []uint8{1, 0}, true},
		{[]uint8{3, 4, 1, 0}, []uint8{1, 0, 2}, true},
	} {
		var want []string
		if row.moved {
			want = []string{"a"}
		}
		expectMoved(t, []string{"a"}, row.before, row.after, want...)
		expectMoved(t, []string{"a"}, row.after, row.before, want...)
	}
}

// P16.1: each two of the sets of six nodes, and all keys whose order is known.
func TestMovedOfSix(t *testing.T) {
	var sets [][]uint8
	for bits := range 1 << 6 {
		var nodes []uint8
		for n := range uint8(6) {
			if bits&(1<<n) != 0 {
				nodes = append(nodes, n)
			}
		}
		sets = append(sets, nodes)
	}
	keys := []string{"", "a", "b", "c", "d", "key", "\xff\x00\x80"}
	for i, before := range sets {
		for _, after := range sets[:i+1] {
			checkMoved(t, keys, before, after)
		}
	}
}

// P16.1: long rows of nodes and of keys, and a long key.
func TestLongRows(t *testing.T) {
	check(t, strings.Repeat("long ", 20000), []uint8{1, 2, 3})
	nodes := slices.Repeat([]uint8{255, 5, 4, 64, 2}, 20000)
	expectOwners(t, "a", append(nodes, 3), 3, 4)
	var keys []string
	for i := range 5000 {
		keys = append(keys, fmt.Sprintf("key %d", i%3000))
	}
	checkMoved(t, keys, allNodes(), allNodes()[1:])
	checkMoved(t, keys, allNodes(), allNodes()[:62])
	checkMoved(t, keys[:5], nodes, []uint8{2, 5})
}

// P16.1, P16.2, P16.3: keys and rows of nodes, drawn from few and from many.
func TestDrawnOwners(t *testing.T) {
	for _, d := range drawings(100) {
		for range 40 {
			key, nodes := d.key(), d.some(one(d.dice, 2, 4, 8, 80))
			check(t, key, nodes)
			littleMoves(t, key, nodes)
			anyOrder(t, d, []string{key}, nodes)
		}
	}
}

// P16.1: Moved of keys and rows of nodes that are much alike, or not, drawn from few and from many.
func TestDrawnMoved(t *testing.T) {
	for _, d := range drawings(200) {
		for range 40 {
			keys, before := d.someKeys(30), d.some(one(d.dice, 2, 4, 8, 80))
			checkMoved(t, keys, before, d.likewise(before))
			checkMoved(t, keys, before, d.some(8))
			anyOrder(t, d, keys[:min(3, len(keys))], before)
		}
	}
}

// P16.2: of many keys, each of the nodes that goes or comes, from nobody to all.
func TestLittleMoves(t *testing.T) {
	for many := range 65 {
		for i := range 8 {
			littleMoves(t, fmt.Sprint("key ", i), allNodes()[:many])
			littleMoves(t, fmt.Sprint("key ", i), allNodes()[64-many:])
		}
	}
	for _, key := range edgeKeys()[:6] {
		littleMoves(t, key, slices.Repeat([]uint8{5, 63, 200, 5, 0, 17}, 2))
	}
}

// P16.2: of many keys those move that a node owned which goes, or owns which comes, and no other ones.
func TestMovedIsOwned(t *testing.T) {
	var keys []string
	for i := range 300 {
		keys = append(keys, fmt.Sprint("key ", i))
	}
	for _, many := range []int{1, 2, 3, 6, 20, 64} {
		nodes := allNodes()[64-many:]
		for _, node := range nodes {
			var want []string
			for _, key := range keys {
				if Owns(key, nodes, node) {
					want = append(want, key)
				}
			}
			rest := without(nodes, node)
			if gone := Moved(keys, nodes, rest); !slices.Equal(gone, want) {
				t.Errorf("without %d of %d nodes: %q, not %q", node, many, gone, want)
			}
			if come := Moved(keys, rest, nodes); !slices.Equal(come, want) {
				t.Errorf("with %d beside %d nodes: %q, not %q", node, many-1, come, want)
			}
		}
	}
}

// anyOrder is P16.3, by what the program answers alone: the same nodes, in other orders, and some of them several times.
func anyOrder(t *testing.T, d drawing, keys []string, nodes []uint8) {
	t.Helper()
	rising := slices.Clone(nodes)
	slices.Sort(rising)
	falling := slices.Compact(slices.Clone(rising))
	slices.Reverse(falling)
	for _, others := range [][]uint8{rising, falling, d.again(nodes), slices.Concat(nodes, falling)} {
		for _, key := range keys {
			if a, b := Owners(key, nodes), Owners(key, others); !slices.Equal(a, b) {
				t.Fatalf("of %q: among %d %d, among %d %d", key, nodes, a, others, b)
			}
			for n := range 256 {
				if Owns(key, nodes, uint8(n)) != Owns(key, others, uint8(n)) {
					t.Fatalf("of %q: node %d among %d and among %d", key, n, nodes, others)
				}
			}
		}
		if l := Moved(keys, nodes, others); len(l) != 0 {
			t.Fatalf("from %d to %d: %q", nodes, others, l)
		}
		for _, third := range [][]uint8{nil, {0}, {1, 5}, d.some(8)} {
			if a, b := Moved(keys, nodes, third), Moved(keys, others, third); !slices.Equal(a, b) {
				t.Fatalf("from %d to %d: %q; from %d: %q", nodes, third, a, others, b)
			}
			if a, b := Moved(keys, third, nodes), Moved(keys, third, others); !slices.Equal(a, b) {
				t.Fatalf("from %d to %d: %q; to %d: %q", third, nodes, a, others, b)
			}
		}
	}
}

// P16.3: every row of four nodes out of four: it is the set that counts.
func TestAnyOrder(t *testing.T) {
	for _, key := range edgeKeys()[:6] {
		for row := range 256 {
			nodes := []uint8{uint8(row & 3), uint8(row >> 2 & 3), uint8(row >> 4 & 3), uint8(row >> 6)}
			rising := slices.Clone(nodes)
			slices.Sort(rising)
			rising = slices.Compact(rising)
			expectOwners(t, key, nodes, Owners(key, rising)...)
			expectMoved(t, []string{key}, nodes, rising)
		}
	}
}

// R2: asked again, each call answers the same, whatever else was asked between.
func TestAskedAgain(t *testing.T) {
	d := drawing{dice: newDice(1)}
	keys, nodes, others := edgeKeys()[:8], d.some(20), d.some(20)
	owners, moved := Owners("a", nodes), Moved(keys, nodes, others)
	for range 20 {
		key := d.key()
		Weight(key, d.node())
		Owners(key, others)
		Owns(key, others, d.node())
		Moved(d.someKeys(5), others, nodes)
		if l := Owners("a", nodes); !slices.Equal(l, owners) {
			t.Errorf("Owners: %d, then %d", owners, l)
		}
		if l := Moved(keys, nodes, others); !slices.Equal(l, moved) {
			t.Errorf("Moved: %q, then %q", moved, l)
		}
	}
}

// R3: what is handed in stays as it is, its spare room too, and plays no part beyond its length.
func TestHandedIn(t *testing.T) {
	for _, d := range drawings(300) {
		for _, n := range []int{0, 1, 2, 3, 7, 40} {
			keysRoom, beforeRoom, afterRoom := make([]string, 50), make([]uint8, 50), make([]uint8, 50)
			for i := range 50 {
				keysRoom[i], beforeRoom[i], afterRoom[i] = d.key(), d.node(), d.node()
			}
			keys, before, after := slices.Clone(keysRoom), slices.Clone(beforeRoom), slices.Clone(afterRoom)
			checkMoved(t, keysRoom[:n], beforeRoom[:n], afterRoom[:n])
			check(t, keys[0], beforeRoom[:n])
			if !slices.Equal(keysRoom, keys) || !slices.Equal(beforeRoom, before) || !slices.Equal(afterRoom, after) {
				t.Fatalf("of %d: what was handed in has changed", n)
			}
		}
	}
}

// spoil overwrites a list, its spare room too.
func spoil[T any](l []T, x T) {
	room := l[:cap(l)]
	for i := range room {
		room[i] = x
	}
}

// R3: what was answered may be changed, its spare room too, without a change of what was handed in, or of another answer; and what was handed in without a change of what was answered.
func TestAnswersStandApart(t *testing.T) {
	for _, d := range drawings(400) {
		for _, most := range []int{0, 1, 2, 3, 20} {
			key, keys, nodes := d.key(), d.someKeys(most), d.some(most)
			keysGiven, nodesGiven := slices.Clone(keys), slices.Clone(nodes)
			want, wantMoved := slowOwners(key, nodes), slowMoved(keys, nodes, nil)
			owners, gone, come := Owners(key, nodes), Moved(keys, nodes, nil), Moved(keys, nil, nodes)
			spoil(Owners(key, nodes), 99)
			spoil(Moved(keys, nodes, nil), "spoilt")
			spoil(Moved(keys, nil, nodes), "spoilt")
			if !slices.Equal(keys, keysGiven) || !slices.Equal(nodes, nodesGiven) {
				t.Fatalf("%q, %d have become %q, %d with an answer", keysGiven, nodesGiven, keys, nodes)
			}
			spoil(keys, "other")
			spoil(nodes, 1)
			if !slices.Equal(owners, want) || !slices.Equal(gone, wantMoved) || !slices.Equal(come, wantMoved) {
				t.Fatalf("of %q, %d: answers have become %d, %q, %q", keysGiven, nodesGiven, owners, gone, come)
			}
		}
	}
}

// R3: keys that are told share memory with nothing that was handed in, nor with another answer.
func TestKeysStandApart(t *testing.T) {
	memory := []byte("onetwo")
	keys := []string{unsafe.String(&memory[0], 3), unsafe.String(&memory[3], 3), unsafe.String(&memory[0], 3)}
	texts := append(Moved(keys, nil, []uint8{1}), Moved(keys, []uint8{1}, []uint8{2})...)
	clear(memory)
	if want := []string{"one", "two", "one", "one", "two", "one"}; !slices.Equal(texts, want) {
		t.Errorf("keys have changed with what was handed in: %q", texts)
	}
	for i, a := range texts {
		for _, b := range texts[:i] {
			if unsafe.StringData(a) == unsafe.StringData(b) {
				t.Errorf("%q and %q share memory", a, b)
			}
		}
	}
}
