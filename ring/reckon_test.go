package ring

import (
	"math/bits"
	"math/rand/v2"
	"slices"
	"strings"
	"testing"
)

// slowMix and slowText follow chapter 1's words, apart from package mix.
func slowMix(x uint64) uint64 {
	x ^= x / (1 << 30)
	_, x = bits.Mul64(x, 0xBF58476D1CE4E5B9)
	x ^= x / (1 << 27)
	_, x = bits.Mul64(x, 0x94D049BB133111EB)
	return x ^ x/(1<<31)
}

func slowText(s string) uint64 {
	h := uint64(0x9E3779B97F4A7C15)
	for _, b := range []byte(s) {
		h = slowMix(h ^ uint64(b))
	}
	return slowMix(h ^ uint64(len(s)))
}

// slowWeights are all nodes' for a key.
func slowWeights(key string) [256]uint64 {
	var all [256]uint64
	start := slowMix(slowText(key))
	for node := range all {
		all[node] = slowMix(start ^ uint64(node+1))
	}
	return all
}

// slowAhead is of each node from 0 to 63 how many of the others stand ahead of it; of one that isn't there, 64.
func slowAhead(key string, nodes []uint8) [64]int {
	there := slices.Clone(nodes)
	slices.Sort(there)
	there = slices.DeleteFunc(slices.Compact(there), func(n uint8) bool { return n > 63 })
	weights := slowWeights(key)
	var ahead [64]int
	for node := range ahead {
		ahead[node] = 64
	}
	for _, n := range there {
		ahead[n] = 0
		for _, other := range there {
			if weights[other] > weights[n] || weights[other] == weights[n] && other < n {
				ahead[n]++
			}
		}
	}
	return ahead
}

func slowOwners(key string, nodes []uint8) []uint8 {
	ahead := slowAhead(key, nodes)
	var l []uint8
	for _, many := range []int{0, 1} {
		if at := slices.Index(ahead[:], many); at >= 0 {
			l = append(l, uint8(at))
		}
	}
	return l
}

// slowMoved asks of each node whether it owns the key in the one case and not in the other one.
func slowMoved(keys []string, before, after []uint8) []string {
	var l []string
	for _, key := range keys {
		a, b := slowAhead(key, before), slowAhead(key, after)
		for node := range a {
			if (a[node] < 2) != (b[node] < 2) {
				l = append(l, key)
				break
			}
		}
	}
	return l
}

// check lays all that can be asked of a key and nodes against the reckoning, and looks that the nodes haven't changed.
func check(t *testing.T, key string, nodes []uint8) {
	t.Helper()
	given := slices.Clone(nodes)
	weights, want := slowWeights(key), slowOwners(key, nodes)
	if got := Owners(key, nodes); !slices.Equal(got, want) {
		t.Fatalf("Owners(%q, %d): %d, not %d", key, nodes, got, want)
	}
	for n := range 256 {
		node := uint8(n)
		if got := Weight(key, node); got != weights[n] {
			t.Fatalf("Weight(%q, %d): %#x, not %#x", key, n, got, weights[n])
		}
		if got, want := Owns(key, nodes, node), slices.Contains(want, node); got != want {
			t.Fatalf("Owns(%q, %d, %d): %v, not %v", key, nodes, n, got, want)
		}
	}
	if !slices.Equal(nodes, given) {
		t.Fatalf("%d have become %d", given, nodes)
	}
}

// checkMoved likewise, of keys and two rows of nodes; the keys that moved are the same both ways.
func checkMoved(t *testing.T, keys []string, before, after []uint8) {
	t.Helper()
	keysGiven, beforeGiven, afterGiven := slices.Clone(keys), slices.Clone(before), slices.Clone(after)
	want := slowMoved(keys, before, after)
	if got := Moved(keys, before, after); !slices.Equal(got, want) {
		t.Fatalf("Moved(%q, %d, %d): %q, not %q", keys, before, after, got, want)
	}
	if got := Moved(keys, after, before); !slices.Equal(got, want) {
		t.Fatalf("Moved(%q, %d, %d): %q, not %q", keys, after, before, got, want)
	}
	if !slices.Equal(keys, keysGiven) || !slices.Equal(before, beforeGiven) || !slices.Equal(after, afterGiven) {
		t.Fatalf("%q, %d, %d have become %q, %d, %d", keysGiven, beforeGiven, afterGiven, keys, before, after)
	}
}

// without is a row of nodes without one of them, however often it stood.
func without(nodes []uint8, node uint8) []uint8 {
	return slices.DeleteFunc(slices.Clone(nodes), func(n uint8) bool { return n == node })
}

// littleMoves is P16.2, by what the program answers alone, of each node that goes or comes.
func littleMoves(t *testing.T, key string, nodes []uint8) {
	t.Helper()
	all := Owners(key, nodes)
	for n := range 256 {
		node := uint8(n)
		if !slices.Contains(nodes, node) {
			oneMore(t, key, node, all, Owners(key, append(slices.Clone(nodes), node)))
			continue
		}
		rest := Owners(key, without(nodes, node))
		if !slices.Contains(all, node) && !slices.Equal(rest, all) {
			t.Fatalf("of %q among %d: %d own it, and without %d, which doesn't, %d", key, nodes, all, node, rest)
		}
		oneMore(t, key, node, rest, all)
	}
}

// oneMore fails unless owners with one more node are those that were, or the node stands in for one of them, which was the last of two.
func oneMore(t *testing.T, key string, node uint8, had, have []uint8) {
	t.Helper()
	want := had
	if slices.Contains(have, node) {
		want = slices.Clone(had[:min(1, len(had))])
		want = slices.Insert(want, slices.Index(have, node), node)
	}
	if node > 63 && !slices.Equal(have, had) || !slices.Equal(have, want) {
		t.Fatalf("of %q: %d owned it, and with %d, %d", key, had, node, have)
	}
}

// dice draws what tests are made of: always the same, so that a test fails each time or never.
type dice struct{ *rand.Rand }

func newDice(seed uint64) dice { return dice{rand.New(rand.NewPCG(seed, 16))} }

func one[T any](d dice, l ...T) T { return l[d.IntN(len(l))] }

func shuffled[T any](d dice, l []T) []T {
	l = slices.Clone(l)
	d.Shuffle(len(l), func(i, j int) { l[i], l[j] = l[j], l[i] })
	return l
}

// drawing is of how many keys and nodes it is drawn: 0 is all that there are.
type drawing struct {
	dice
	keys, nodes int
}

func drawings(seed uint64) []drawing {
	var l []drawing
	for _, keys := range []int{1, 5, 40, 0} {
		for _, nodes := range []int{1, 2, 3, 6, 64, 66, 0} {
			l = append(l, drawing{newDice(seed + uint64(len(l))), keys, nodes})
		}
	}
	return l
}

func (d drawing) key() string {
	if d.keys > 0 {
		return strings.Repeat("k", d.IntN(d.keys))
	}
	b := make([]byte, one(d.dice, d.IntN(4), d.IntN(12), d.IntN(300)))
	for i := range b {
		b[i] = one(d.dice, byte(d.IntN(256)), 'a', 0, 127, 128, 255)
	}
	return string(b)
}

func (d drawing) someKeys(most int) []string {
	l := make([]string, d.IntN(most+1))
	for i := range l {
		l[i] = d.key()
	}
	return l
}

func (d drawing) node() uint8 {
	if d.nodes > 0 {
		return uint8(d.IntN(d.nodes))
	}
	return one(d.dice, uint8(d.IntN(256)), uint8(d.IntN(64)), uint8(d.IntN(64)), 0, 1, 62, 63, 64, 65, 127, 128, 255)
}

func (d drawing) some(most int) []uint8 {
	l := make([]uint8, d.IntN(most+1))
	for i := range l {
		l[i] = d.node()
	}
	return l
}

// likewise is a row with the same nodes, or with one or a few more or fewer of them, in any order.
func (d drawing) likewise(nodes []uint8) []uint8 {
	l := d.again(nodes)
	for range one(d.dice, 0, 1, 1, 2, 3) {
		node := d.node()
		if len(l) > 0 && d.IntN(2) == 0 {
			l = without(l, one(d.dice, l...))
		} else {
			l = append(l, node)
		}
	}
	return shuffled(d.dice, l)
}

// again is a row in which the same nodes stand in any order, some of them several times, with such above 63 among them.
func (d drawing) again(nodes []uint8) []uint8 {
	l := slices.Clone(nodes)
	for range d.IntN(5) {
		if len(l) > 0 {
			l = append(l, one(d.dice, l...))
		}
		l = append(l, slices.Repeat([]uint8{uint8(64 + d.IntN(192))}, d.IntN(3))...)
	}
	return shuffled(d.dice, l)
}
