package tree

import (
	"fmt"
	"math"
	"math/rand/v2"
	"slices"
	"testing"

	"tattler/api"
)

// slowMix and slowTwo follow chapter 1's words, apart from package mix.
func slowMix(x uint64) uint64 {
	x ^= x / (1 << 30)
	x *= 0xBF58476D1CE4E5B9
	x ^= x / (1 << 27)
	x *= 0x94D049BB133111EB
	return x ^ x/(1<<31)
}

func slowTwo(x, y uint64) uint64 { return slowMix(slowMix(x) ^ y) }

// unmix is the number that is mixed to x.
func unmix(x uint64) uint64 {
	x = unshift(x, 31) * oddInverse(0x94D049BB133111EB)
	x = unshift(x, 27) * oddInverse(0xBF58476D1CE4E5B9)
	return unshift(x, 30)
}

// unshift is the number that, xor itself without its last bits, is x.
func unshift(x uint64, bits int) uint64 {
	y := x
	for range 64 / bits {
		y = x ^ y>>bits
	}
	return y
}

// oddInverse is the number that, times an odd f, is 1: each step doubles the bits that are right.
func oddInverse(f uint64) uint64 {
	y := f
	for range 6 {
		y *= 2 - f*y
	}
	return y
}

// rows is a tree that is reckoned apart from the program: all its levels, made out of its leaves alone.
type rows [7][]uint64

func rowsOf(leaves []uint64) rows {
	var r rows
	r[6] = slices.Clone(leaves)
	for level := 5; level >= 0; level-- {
		for pair := range slices.Chunk(r[level+1], 2) {
			r[level] = append(r[level], slowTwo(pair[0], pair[1]))
		}
	}
	return r
}

// node is 0 where there is none.
func (r rows) node(level, i int) uint64 {
	if level < 0 || level >= len(r) || i < 0 || i >= len(r[level]) {
		return 0
	}
	return r[level][i]
}

// slowWalk goes level by level: of each it has all places that are looked at.
func slowWalk(a, b rows) ([]int, int) {
	places, looked := []int{0}, 0
	for level := range 7 {
		looked += len(places)
		places = slices.DeleteFunc(places, func(i int) bool { return a[level][i] == b[level][i] })
		if level < 6 {
			places = children(places)
		}
	}
	return places, looked
}

func children(places []int) []int {
	var l []int
	for _, i := range places {
		l = append(l, 2*i, 2*i+1)
	}
	return l
}

func slowApart(a, b []uint64) []int {
	var l []int
	for i, x := range a {
		if x != b[i] {
			l = append(l, i)
		}
	}
	return l
}

// forge turns the last one of some leaves (2^n of them) so that the node above them all is x.
func forge(leaves []uint64, x uint64) {
	if len(leaves) == 1 {
		leaves[0] = x
		return
	}
	half := len(leaves) / 2
	forge(leaves[half:], unmix(x)^slowMix(above(leaves[:half])))
}

// above is the node above some leaves (2^n of them).
func above(leaves []uint64) uint64 {
	if len(leaves) == 1 {
		return leaves[0]
	}
	half := len(leaves) / 2
	return slowTwo(above(leaves[:half]), above(leaves[half:]))
}

// both is a tree beside the leaves that it should have; behind each call all that can be asked is asked of both. A nil tree has no leaves.
type both struct {
	t      *testing.T
	tree   *Tree
	leaves []uint64
}

func newBoth(t *testing.T) *both {
	t.Helper()
	b := &both{t: t, tree: New(), leaves: make([]uint64, 64)}
	if b.tree == nil {
		t.Fatal("New: nil")
	}
	b.check("New")
	return b
}

func bothOf(t *testing.T, leaves []uint64) *both {
	t.Helper()
	tree, e := Of(leaves)
	if e != api.OK || tree == nil {
		t.Fatalf("Of %d leaves: %v, %d", len(leaves), tree, e)
	}
	b := &both{t: t, tree: tree, leaves: slices.Clone(leaves)}
	b.check("Of")
	return b
}

func (b *both) flip(i int, x uint64) api.Errno {
	b.t.Helper()
	want := api.ErrArg
	if b.tree != nil && i >= 0 && i < 64 {
		b.leaves[i] ^= x
		want = api.OK
	}
	e := b.tree.Flip(i, x)
	if e != want {
		b.t.Fatalf("Flip(%d, %x): %d, not %d", i, x, e, want)
	}
	b.check(fmt.Sprintf("Flip(%d, %x)", i, x))
	return e
}

// walk goes down both, and lays Walk and Apart, from either side, against what is reckoned.
func (b *both) walk(c *both) ([]int, int) {
	b.t.Helper()
	var found, apart []int
	looked := 0
	if b.tree != nil && c.tree != nil {
		found, looked = slowWalk(rowsOf(b.leaves), rowsOf(c.leaves))
		apart = slowApart(b.leaves, c.leaves)
	}
	for _, side := range [][2]*both{{b, c}, {c, b}} {
		if l, n := side[0].tree.Walk(side[1].tree); !slices.Equal(l, found) || n != looked {
			b.t.Fatalf("Walk of %x and %x: %d, %d, not %d, %d", side[0].leaves, side[1].leaves, l, n, found, looked)
		}
		if l := side[0].tree.Apart(side[1].tree); !slices.Equal(l, apart) {
			b.t.Fatalf("Apart of %x and %x: %d, not %d", side[0].leaves, side[1].leaves, l, apart)
		}
	}
	b.down(c)
	b.check("a walk")
	c.check("a walk")
	return found, looked
}

// down is P14.2, by what the trees answer alone.
func (b *both) down(c *both) {
	b.t.Helper()
	if b.tree == nil || c.tree == nil {
		return
	}
	x, y := b.tree.Leaves(), c.tree.Leaves()
	found, looked := b.tree.Walk(c.tree)
	for k, i := range found {
		if k > 0 && found[k-1] >= i || b.tree.Node(6, i) == c.tree.Node(6, i) {
			b.t.Fatalf("Walk of %x and %x: %d", x, y, found)
		}
	}
	apart := b.tree.Apart(c.tree)
	if slices.Equal(x, y) && (len(found) != 0 || looked != 1 || len(apart) != 0) {
		b.t.Fatalf("of two that have the leaves %x: Walk is %d, %d, Apart is %d", x, found, looked, apart)
	}
	if len(apart) == 1 && (!slices.Equal(found, apart) || looked != 13) {
		b.t.Fatalf("%x and %x differ in %d: Walk is %d, %d", x, y, apart, found, looked)
	}
}

// check asks for all nodes of all levels, and for some that there are not.
func (b *both) check(call string) {
	b.t.Helper()
	var want rows
	if b.tree != nil {
		want = rowsOf(b.leaves)
	}
	for level := -1; level <= 7; level++ {
		for i := -1; i <= len(want.at(level)); i++ {
			if x := b.tree.Node(level, i); x != want.node(level, i) {
				b.t.Fatalf("behind %s: Node(%d, %d): %x, not %x", call, level, i, x, want.node(level, i))
			}
		}
	}
	if x := b.tree.Root(); x != want.node(0, 0) {
		b.t.Fatalf("behind %s: Root: %x, not %x", call, x, want.node(0, 0))
	}
	if l := b.tree.Leaves(); !slices.Equal(l, b.leaves) {
		b.t.Fatalf("behind %s: Leaves: %x, not %x", call, l, b.leaves)
	}
}

func (r rows) at(level int) []uint64 {
	if level < 0 || level >= len(r) {
		return nil
	}
	return r[level]
}

// allNodes is what a tree answers for all its nodes, its root and its leaves.
func allNodes(t *Tree) []uint64 {
	l := append(t.Leaves(), t.Root())
	for level := range 7 {
		for i := range 1 << level {
			l = append(l, t.Node(level, i))
		}
	}
	return l
}

// strangeLeaves is numbers that no leaf has.
func strangeLeaves() []int {
	return []int{math.MinInt, math.MinInt + 1, math.MinInt32, -128, -65, -64, -63, -2, -1, 64, 65, 127, 128, math.MaxInt32, math.MaxUint32, math.MaxUint32 + 1, math.MaxInt - 1, math.MaxInt}
}

// edgeNumbers is what leaves may be turned by.
func edgeNumbers() []uint64 {
	return []uint64{0, 1, 2, 9, 1<<32 - 1, 1 << 32, 1<<63 - 1, 1 << 63, math.MaxUint64 - 1, math.MaxUint64}
}

// dice draws what tests are made of: always the same, so that a test fails each time or never.
type dice struct{ *rand.Rand }

func newDice(seed uint64) dice { return dice{rand.New(rand.NewPCG(seed, 14))} }

func one[T any](d dice, l ...T) T { return l[d.IntN(len(l))] }

// number is one of so many; of all that there are, if it is so many as 0.
func (d dice) number(of uint64) uint64 {
	if of == 0 {
		return d.Uint64()
	}
	return d.Uint64N(of)
}

func (d dice) leaves(n int, of uint64) []uint64 {
	l := make([]uint64, n)
	for i := range l {
		l[i] = d.number(of)
	}
	return l
}
