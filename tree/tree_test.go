package tree

import (
	"fmt"
	"math"
	"slices"
	"testing"

	"tattler/api"
)

func expectFlip(t *testing.T, b *both, i int, x uint64, want api.Errno) {
	t.Helper()
	if e := b.flip(i, x); e != want {
		t.Errorf("Flip(%d, %x): %d, not %d", i, x, e, want)
	}
}

// expectWalk lays Walk, from either side, against what was reckoned by hand.
func expectWalk(t *testing.T, b, c *both, looked int, found ...int) {
	t.Helper()
	b.walk(c)
	for _, side := range [][2]*both{{b, c}, {c, b}} {
		if l, n := side[0].tree.Walk(side[1].tree); !slices.Equal(l, found) || n != looked {
			t.Errorf("Walk: %d, %d, not %d, %d", l, n, found, looked)
		}
	}
}

// expectApart likewise.
func expectApart(t *testing.T, b, c *both, want ...int) {
	t.Helper()
	for _, side := range [][2]*both{{b, c}, {c, b}} {
		if l := side[0].tree.Apart(side[1].tree); !slices.Equal(l, want) {
			t.Errorf("Apart: %d, not %d", l, want)
		}
	}
}

// P14.1: the chapter's examples.
func TestExamples(t *testing.T) {
	if x := New().Root(); x != 0 {
		t.Errorf("a new one's root: %x", x)
	}
	b := newBoth(t)
	expectFlip(t, b, 5, 9, api.OK)
	expectWalk(t, b, newBoth(t), 13, 5)
	expectApart(t, b, newBoth(t), 5)
}

// The reckoning itself: what it is made of is told by chapter 1's examples, and turned back.
func TestReckoning(t *testing.T) {
	if slowMix(0) != 0 || slowMix(1) != 0x5692161D100B05E5 || slowTwo(0, 0) != 0 {
		t.Fatal("slowMix")
	}
	d := newDice(1)
	for range 1000 {
		x := d.Uint64()
		if unmix(slowMix(x)) != x || slowMix(unmix(x)) != x {
			t.Fatalf("unmix of %x", x)
		}
		leaves := d.leaves(1<<d.IntN(7), 0)
		first := slices.Clone(leaves[:len(leaves)-1])
		forge(leaves, x)
		if above(leaves) != x || !slices.Equal(leaves[:len(first)], first) {
			t.Fatalf("forge of %d leaves", len(leaves))
		}
		leaves = d.leaves(64, 0)
		if above(leaves) != rowsOf(leaves)[0][0] || above(leaves[32:40]) != rowsOf(leaves)[3][4] {
			t.Fatal("above")
		}
	}
}

// P14.1: a new tree is of noughts, all its nodes too.
func TestNew(t *testing.T) {
	b := newBoth(t)
	if l := b.tree.Leaves(); !slices.Equal(l, make([]uint64, 64)) {
		t.Errorf("Leaves: %x", l)
	}
	for _, x := range allNodes(b.tree) {
		if x != 0 {
			t.Errorf("a node is %x", x)
		}
	}
	of := bothOf(t, make([]uint64, 64))
	expectWalk(t, b, of, 1)
	expectApart(t, b, of)
	expectWalk(t, b, newBoth(t), 1)
}

// P14.1: Of takes 64 leaves, and no other number of them.
func TestOf(t *testing.T) {
	d := newDice(2)
	for _, n := range []int{0, 1, 2, 31, 32, 33, 62, 63, 65, 66, 127, 128, 4096, 100000} {
		for _, of := range []uint64{1, 0} {
			leaves := d.leaves(n, of)
			if tree, e := Of(leaves); tree != nil || e != api.ErrArg {
				t.Errorf("Of %d leaves: %v, %d", n, tree, e)
			}
		}
	}
	if tree, e := Of(nil); tree != nil || e != api.ErrArg {
		t.Errorf("Of(nil): %v, %d", tree, e)
	}
	for range 200 {
		for _, of := range []uint64{1, 2, 3, 100, 0} {
			bothOf(t, d.leaves(64, of))
		}
	}
	rising := make([]uint64, 64)
	for i := range rising {
		rising[i] = uint64(i)
	}
	bothOf(t, rising)
	bothOf(t, slices.Repeat([]uint64{math.MaxUint64}, 64))
	bothOf(t, slices.Repeat([]uint64{1 << 63}, 64))
}

// P14.1: a list that is cut to 64 leaves, or to fewer, has no more of them, whatever room it has.
func TestOfRoom(t *testing.T) {
	long := newDice(3).leaves(200, 0)
	bothOf(t, long[:64])
	bothOf(t, long[70:134])
	if tree, e := Of(long[:63]); tree != nil || e != api.ErrArg {
		t.Errorf("Of 63 leaves with room for more: %v, %d", tree, e)
	}
	if tree, e := Of(long[:0]); tree != nil || e != api.ErrArg {
		t.Errorf("Of no leaves with room for more: %v, %d", tree, e)
	}
}

// P14.1: a tree of leaves is the one that they are flipped into, in any order, each at once or bit by bit.
func TestOfAndFlips(t *testing.T) {
	d := newDice(4)
	for _, of := range []uint64{2, 5, 0} {
		leaves := d.leaves(64, of)
		at, bits := newBoth(t), newBoth(t)
		for _, i := range d.Perm(64) {
			at.flip(i, leaves[i])
			for bit := range 64 {
				bits.tree.Flip(i, leaves[i]&(1<<bit))
				bits.leaves[i] ^= leaves[i] & (1 << bit)
			}
		}
		expectWalk(t, at, bothOf(t, leaves), 1)
		expectApart(t, at, bothOf(t, leaves))
		expectWalk(t, bits, bothOf(t, leaves), 1)
	}
}

// P14.1: Flip of the edges of what a leaf is, by the edges of what it may be turned by; one that is refused changes nothing.
func TestFlipEdges(t *testing.T) {
	d := newDice(5)
	for _, leaves := range [][]uint64{make([]uint64, 64), slices.Repeat([]uint64{math.MaxUint64}, 64), d.leaves(64, 0)} {
		b := bothOf(t, leaves)
		for _, x := range edgeNumbers() {
			for _, i := range []int{0, 1, 30, 31, 32, 33, 62, 63} {
				expectFlip(t, b, i, x, api.OK)
				if got, want := b.tree.Node(6, i), leaves[i]^x; got != want {
					t.Errorf("Flip(%d, %x): the leaf is %x, not %x", i, x, got, want)
				}
				expectFlip(t, b, i, x, api.OK)
			}
			for _, i := range strangeLeaves() {
				ahead := allNodes(b.tree)
				expectFlip(t, b, i, x, api.ErrArg)
				if !slices.Equal(ahead, allNodes(b.tree)) {
					t.Errorf("Flip(%d, %x) is refused, and changes the tree", i, x)
				}
			}
		}
	}
}

// P14.1: Flip by 0 is no change of the tree, and no error.
func TestFlipByNought(t *testing.T) {
	b := bothOf(t, newDice(6).leaves(64, 0))
	ahead := allNodes(b.tree)
	for i := range 64 {
		expectFlip(t, b, i, 0, api.OK)
	}
	if !slices.Equal(ahead, allNodes(b.tree)) {
		t.Error("Flips by 0 change the tree")
	}
}

// P14.1: a Flip changes its leaf and the nodes above it, all of them, and no other one.
func TestFlipChanges(t *testing.T) {
	d := newDice(7)
	for i := range 64 {
		for _, x := range []uint64{1, 1 << 63, math.MaxUint64, d.Uint64() | 1} {
			b := bothOf(t, d.leaves(64, one(d, 1, 3, uint64(0))))
			ahead := bothOf(t, b.leaves)
			b.flip(i, x)
			for level := range 7 {
				for k := range 1 << level {
					isAbove := k == i>>(6-level)
					if differ := b.tree.Node(level, k) != ahead.tree.Node(level, k); differ != isAbove {
						t.Fatalf("Flip(%d, %x): that Node(%d, %d) differs is %v", i, x, level, k, differ)
					}
				}
			}
		}
	}
}

// P14.1: numbers that chapter 1's examples tell: Two(0, 1) is Mix(1), as Mix(0) is 0; and left and right aren't the same.
func TestNodesByHand(t *testing.T) {
	b := newBoth(t)
	b.flip(63, 1)
	if x := b.tree.Node(5, 31); x != 0x5692161D100B05E5 {
		t.Errorf("Two(0, 1): %x", x)
	}
	if x := b.tree.Node(6, 63); x != 1 {
		t.Errorf("the last leaf: %x", x)
	}
	for level := range 6 {
		want := uint64(1)
		for range 6 - level {
			want = slowMix(want)
		}
		if x := b.tree.Node(level, 1<<level-1); x != want {
			t.Errorf("above the last leaf, at %d: %x, not %x", level, x, want)
		}
	}
	c := newBoth(t)
	c.flip(62, 1)
	if x := c.tree.Node(5, 31); x != slowMix(0x5692161D100B05E5) {
		t.Errorf("Two(1, 0): %x", x)
	}
}

// P14.1: Node at levels and places of which there are none, and at the edges of those there are; the level 6 is the leaves; Root is Node(0, 0).
func TestNodeEdges(t *testing.T) {
	d := newDice(8)
	for _, leaves := range [][]uint64{make([]uint64, 64), slices.Repeat([]uint64{math.MaxUint64}, 64), d.leaves(64, 0)} {
		b := bothOf(t, leaves)
		want := rowsOf(leaves)
		levels := []int{math.MinInt, math.MinInt + 1, math.MinInt32, -64, -7, -2, -1, 0, 1, 2, 3, 4, 5, 6, 7, 8, 31, 32, 62, 63, 64, 65, 127, 128, 256, math.MaxInt32, math.MaxUint32, math.MaxUint32 + 1, math.MaxInt - 1, math.MaxInt}
		places := []int{math.MinInt, math.MinInt + 1, math.MinInt32, -128, -64, -2, -1, 0, 1, 2, 3, 4, 7, 8, 15, 16, 31, 32, 63, 64, 65, 127, 128, math.MaxInt32, math.MaxUint32, math.MaxUint32 + 1, math.MaxInt - 1, math.MaxInt}
		for _, level := range levels {
			for _, i := range places {
				if x := b.tree.Node(level, i); x != want.node(level, i) {
					t.Errorf("Node(%d, %d): %x, not %x", level, i, x, want.node(level, i))
				}
			}
		}
		for i, x := range leaves {
			if b.tree.Node(6, i) != x {
				t.Errorf("Node(6, %d): %x, not %x", i, b.tree.Node(6, i), x)
			}
		}
		if b.tree.Root() != b.tree.Node(0, 0) {
			t.Errorf("Root: %x, Node(0, 0): %x", b.tree.Root(), b.tree.Node(0, 0))
		}
	}
}

// P14.1: by what the tree answers alone: each node is Two of its two children.
func TestNodesAreTwo(t *testing.T) {
	d := newDice(9)
	for range 100 {
		b := bothOf(t, d.leaves(64, one(d, 2, uint64(0))))
		for range 20 {
			b.tree.Flip(d.IntN(64), d.Uint64())
		}
		for level := range 6 {
			for i := range 1 << level {
				want := slowTwo(b.tree.Node(level+1, 2*i), b.tree.Node(level+1, 2*i+1))
				if x := b.tree.Node(level, i); x != want {
					t.Fatalf("Node(%d, %d): %x, not %x", level, i, x, want)
				}
			}
		}
	}
}

// P14.1: Leaves of a new tree, of one of Of, and behind Flips.
func TestLeaves(t *testing.T) {
	d := newDice(10)
	first := d.leaves(64, 0)
	for _, b := range []*both{newBoth(t), bothOf(t, first)} {
		want := slices.Clone(b.leaves)
		for i := range 64 {
			x := d.Uint64()
			want[i] ^= x
			b.tree.Flip(i, x)
			if l := b.tree.Leaves(); !slices.Equal(l, want) {
				t.Fatalf("Leaves: %x, not %x", l, want)
			}
		}
	}
}

// twoApart is a tree, and one whose leaves at these places are others: by numbers of which none is drawn twice, as like ones may have like nodes above them.
func twoApart(t *testing.T, d dice, places ...int) (*both, *both) {
	t.Helper()
	leaves := d.leaves(64, one(d, 1, 2, uint64(0)))
	others := slices.Clone(leaves)
	for _, i := range places {
		others[i] ^= d.Uint64() | 1
	}
	return bothOf(t, leaves), bothOf(t, others)
}

// P14.2: of trees that are the same a walk finds nothing and looks at one node: of twins, and of a tree and itself.
func TestWalkOfTheSame(t *testing.T) {
	d := newDice(11)
	for range 200 {
		b, twin := twoApart(t, d)
		expectWalk(t, b, twin, 1)
		expectApart(t, b, twin)
		expectWalk(t, b, b, 1)
		expectApart(t, b, b)
		i, x := d.IntN(64), d.Uint64()
		b.flip(i, x)
		twin.flip(i, x)
		expectWalk(t, b, twin, 1)
		expectWalk(t, b, b, 1)
	}
}

// P14.2: a tree with one other leaf is told by 13 nodes, whichever leaf it is.
func TestWalkOfOneOther(t *testing.T) {
	d := newDice(12)
	for i := range 64 {
		for range 20 {
			b, c := twoApart(t, d, i)
			expectWalk(t, b, c, 13, i)
			expectApart(t, b, c, i)
		}
		for _, x := range edgeNumbers()[1:] {
			b := newBoth(t)
			b.flip(i, x)
			expectWalk(t, b, newBoth(t), 13, i)
		}
	}
}

// P14.2: of two other leaves, those that stand above both are looked at once: the earlier their ways part, the more nodes there are.
func TestWalkOfTwoOthers(t *testing.T) {
	d := newDice(13)
	for i := range 64 {
		for k := i + 1; k < 64; k++ {
			common := 0
			for level := range 6 {
				if i>>(6-level) == k>>(6-level) {
					common++
				}
			}
			b, c := twoApart(t, d, i, k)
			expectWalk(t, b, c, 1+2*(12-common), i, k)
			expectApart(t, b, c, i, k)
		}
	}
}

// P14.1, P14.2: how many nodes are looked at, reckoned by hand.
func TestWalkByHand(t *testing.T) {
	d := newDice(14)
	all := make([]int, 64)
	for i := range all {
		all[i] = i
	}
	for _, c := range []struct {
		places []int
		looked int
	}{
		{nil, 1},
		{[]int{0}, 13},
		{[]int{31}, 13},
		{[]int{32}, 13},
		{[]int{63}, 13},
		{[]int{0, 1}, 13},
		{[]int{62, 63}, 13},
		{[]int{1, 2}, 15},
		{[]int{0, 1, 2, 3}, 15},
		{[]int{3, 4}, 17},
		{[]int{15, 16}, 21},
		{[]int{0, 31}, 21},
		{[]int{0, 32}, 23},
		{[]int{31, 32}, 23},
		{[]int{0, 63}, 23},
		{[]int{10, 20, 40}, 31},
		{[]int{0, 16, 32, 48}, 39},
		{all[:32], 65},
		{all[32:], 65},
		{all[16:48], 67},
		{all[1:], 127},
		{all[:63], 127},
		{all, 127},
	} {
		for range 10 {
			b, other := twoApart(t, d, c.places...)
			expectWalk(t, b, other, c.looked, c.places...)
			expectApart(t, b, other, c.places...)
		}
	}
}

// P14.1: unlike leaves with one node above them: Walk, which looks at no leaf below like nodes, doesn't find them; Apart does.
func TestWalkPassesBy(t *testing.T) {
	d := newDice(15)
	for level := range 6 {
		for place := range 1 << level {
			width := 64 >> level
			leaves := d.leaves(64, one(d, 3, uint64(0)))
			others := slices.Clone(leaves)
			part := others[place*width : (place+1)*width]
			part[0]++
			forge(part, above(leaves[place*width:(place+1)*width]))
			first, last := place*width, (place+1)*width-1
			b, c := bothOf(t, leaves), bothOf(t, others)
			expectWalk(t, b, c, 1)
			expectApart(t, b, c, first, last)
			if level == 0 {
				continue
			}
			far := (first + 32) % 64
			b.flip(far, 7)
			expectWalk(t, b, c, 13, far)
			want := []int{first, last, far}
			slices.Sort(want)
			expectApart(t, b, c, want...)
		}
	}
}

// P14.1: like nodes come about without a forger, too: Two of a number and of it mixed is 0, as that of noughts.
func TestWalkPassesByWhatIsLike(t *testing.T) {
	for _, x := range edgeNumbers()[1:] {
		b := newBoth(t)
		b.flip(1, x)
		b.flip(2, x)
		expectWalk(t, b, newBoth(t), 1)
		expectApart(t, b, newBoth(t), 1, 2)
		b.flip(2, x)
		b.flip(3, slowMix(x))
		b.flip(1, x)
		b.flip(2, x)
		expectWalk(t, b, newBoth(t), 1)
		expectApart(t, b, newBoth(t), 2, 3)
	}
}

// P14.1: like nodes above unlike ones, further down: the walk ends where they are like, and goes on beside them.
func TestWalkStopsBetween(t *testing.T) {
	leaves := make([]uint64, 64)
	others := make([]uint64, 64)
	others[8] = 1
	forge(others[8:16], 0)
	others[0] = 5
	others[40] = 6
	b, c := bothOf(t, leaves), bothOf(t, others)
	expectWalk(t, b, c, 23, 0, 40)
	expectApart(t, b, c, 0, 8, 15, 40)
	c.flip(9, 1)
	expectWalk(t, b, c, 33, 0, 8, 9, 15, 40)
	c.flip(9, 1)
	expectWalk(t, b, c, 23, 0, 40)
}

// P14.1: Walk asked again answers the same, and so does Apart.
func TestAskedAgain(t *testing.T) {
	b, c := twoApart(t, newDice(16), 3, 5, 60)
	for range 5 {
		expectWalk(t, b, c, 27, 3, 5, 60)
		expectApart(t, b, c, 3, 5, 60)
	}
}

// P14.1, R3: what Of was handed stays as it is, its spare room too, and may be changed without a change of the tree.
func TestOfKeepsNothing(t *testing.T) {
	d := newDice(17)
	for _, n := range []int{63, 64, 65} {
		room := d.leaves(100, 0)
		ahead := slices.Clone(room)
		tree, _ := Of(room[:n])
		if !slices.Equal(room, ahead) {
			t.Fatalf("Of %d leaves changes them", n)
		}
		if n != 64 {
			continue
		}
		b := &both{t: t, tree: tree, leaves: ahead[:64]}
		clear(room)
		b.check("a change of what Of was handed")
		tree.Flip(0, 1)
		if !slices.Equal(room, make([]uint64, 100)) {
			t.Error("Flip changes what Of was handed")
		}
	}
}

// P14.1, R3: what Leaves, Walk and Apart answered stays as it is when the tree is flipped, and the tree when that is changed, its spare room too.
func TestAnswersStandApart(t *testing.T) {
	d := newDice(18)
	for _, places := range [][]int{nil, {0}, {63}, {3, 4, 50}, d.Perm(64)[:20], d.Perm(64)} {
		b, c := twoApart(t, d, places...)
		sorted := slices.Sorted(slices.Values(places))
		leaves, again := b.tree.Leaves(), b.tree.Leaves()
		found, _ := b.tree.Walk(c.tree)
		found2, _ := b.tree.Walk(c.tree)
		apart, apart2 := b.tree.Apart(c.tree), b.tree.Apart(c.tree)
		ahead := slices.Clone(b.leaves)
		for i := range 64 {
			b.flip(i, 77)
		}
		if !slices.Equal(leaves, ahead) || !slices.Equal(found, sorted) || !slices.Equal(apart, sorted) {
			t.Fatal("a Flip changes what was answered")
		}
		spoil(leaves, 7)
		spoil(found, -7)
		spoil(apart, -7)
		if !slices.Equal(again, ahead) || !slices.Equal(found2, sorted) || !slices.Equal(apart2, sorted) {
			t.Fatal("two answers share memory")
		}
		b.check("a change of what was answered")
		c.check("a change of what was answered")
		b.walk(c)
	}
}

// spoil overwrites a list, its spare room too.
func spoil[T any](l []T, x T) {
	room := l[:cap(l)]
	for i := range room {
		room[i] = x
	}
}

// P14.1: trees side by side know nothing of each other.
func TestTwoTrees(t *testing.T) {
	d := newDice(19)
	leaves := d.leaves(64, 0)
	three := []*both{bothOf(t, leaves), bothOf(t, leaves), newBoth(t)}
	for range 500 {
		b := one(d, three...)
		b.flip(d.IntN(66)-1, d.Uint64())
		for _, c := range three {
			c.check("a Flip of another tree")
		}
	}
}

// P14.1: no call of a nil tree does anything, and beside one nothing is found.
func TestNil(t *testing.T) {
	none := &both{t: t}
	for _, i := range append(strangeLeaves(), 0, 1, 31, 32, 63) {
		for _, x := range edgeNumbers() {
			expectFlip(t, none, i, x, api.ErrArg)
		}
		for level := -1; level <= 7; level++ {
			if x := none.tree.Node(level, i); x != 0 {
				t.Errorf("a nil tree's Node(%d, %d): %x", level, i, x)
			}
		}
	}
	if x := none.tree.Root(); x != 0 {
		t.Errorf("a nil tree's root: %x", x)
	}
	if l := none.tree.Leaves(); len(l) != 0 {
		t.Errorf("a nil tree's leaves: %x", l)
	}
	for _, b := range []*both{none, newBoth(t), bothOf(t, newDice(20).leaves(64, 0))} {
		expectWalk(t, b, none, 0)
		expectApart(t, b, none)
	}
}

// P14.3: each leaf flipped twice, by each edge, is as it was: leaves, nodes and root.
func TestTwice(t *testing.T) {
	d := newDice(21)
	for _, of := range []uint64{1, 2, 0} {
		b := bothOf(t, d.leaves(64, of))
		ahead := allNodes(b.tree)
		for i := range 64 {
			for _, x := range append(edgeNumbers(), d.Uint64()) {
				b.flip(i, x)
				if x != 0 && slices.Equal(ahead, allNodes(b.tree)) {
					t.Fatalf("Flip(%d, %x) changes nothing", i, x)
				}
				b.flip(i, x)
				if !slices.Equal(ahead, allNodes(b.tree)) {
					t.Fatalf("Flip(%d, %x), twice, isn't as it was", i, x)
				}
			}
		}
	}
}

type flipping struct {
	i int
	x uint64
}

// P14.3: many flips, each of them twice, in any order, are as it was; refused ones between them change nothing of that.
func TestTwiceInAnyOrder(t *testing.T) {
	for seed := range uint64(400) {
		d := newDice(1000 + seed)
		b := bothOf(t, d.leaves(64, one(d, 1, 3, uint64(0))))
		ahead := allNodes(b.tree)
		places, of := one(d, 1, 2, 5, 64), one(d, 2, 4, uint64(0))
		var flips []flipping
		for range 1 + d.IntN(20) {
			f := flipping{d.IntN(places), d.number(of)}
			flips = append(flips, f, f)
		}
		flips = append(flips, flipping{one(d, strangeLeaves()...), d.Uint64()})
		d.Shuffle(len(flips), func(i, k int) { flips[i], flips[k] = flips[k], flips[i] })
		for _, f := range flips {
			b.flip(f.i, f.x)
		}
		if !slices.Equal(ahead, allNodes(b.tree)) {
			t.Fatalf("%v isn't as it was", flips)
		}
	}
}

// P14.3: every order of three flips, each of them twice.
func TestTwiceInEveryOrder(t *testing.T) {
	for _, three := range [][3]flipping{
		{{0, 1}, {0, 2}, {1, 1}},
		{{0, 1}, {1, 1}, {63, 1}},
		{{31, 5}, {32, 5}, {31, 5}},
		{{63, 1 << 63}, {63, math.MaxUint64}, {62, 0}},
	} {
		orders := 0
		everyRow(6, 3, func(row []int) {
			times := [3]int{}
			for _, k := range row {
				times[k]++
			}
			if times != [3]int{2, 2, 2} {
				return
			}
			orders++
			b := bothOf(t, newDice(22).leaves(64, 0))
			ahead := allNodes(b.tree)
			for _, k := range row {
				b.flip(three[k].i, three[k].x)
			}
			if !slices.Equal(ahead, allNodes(b.tree)) {
				t.Fatalf("%v, in the order %d, isn't as it was", three, row)
			}
		})
		if orders != 90 {
			t.Fatalf("%d orders", orders)
		}
	}
}

// everyRow calls f with each row of so many numbers below a bound.
func everyRow(length, bound int, f func([]int)) {
	row := make([]int, length)
	for {
		f(row)
		i := 0
		for i < length && row[i] == bound-1 {
			row[i] = 0
			i++
		}
		if i == length {
			return
		}
		row[i]++
	}
}

// P14.1, P14.2: every row of few flips of two trees.
func TestEveryRowOfFlips(t *testing.T) {
	calls := []flipping{{-1, 1}, {0, 1}, {1, 1}, {32, 3}, {63, 1 << 63}, {64, 1}}
	everyRow(4, 2*len(calls), func(row []int) {
		two := [2]*both{newBoth(t), newBoth(t)}
		for _, k := range row {
			f := calls[k/2]
			two[k%2].flip(f.i, f.x)
		}
		two[0].walk(two[1])
	})
}

// P14.1, P14.2: long rows of calls of several trees, drawn, with leaves out of few numbers and of many.
func TestDrawnRows(t *testing.T) {
	for seed := range uint64(300) {
		d := newDice(5000 + seed)
		r := &row{t: t, dice: d, of: one(d, 1, 2, 3, 20, 0, uint64(0)), places: one(d, 1, 3, 64, 64)}
		r.trees = []*both{{t: t}, newBoth(t), newBoth(t)}
		for range 150 {
			r.call()
		}
	}
}

// row is trees, the first of them nil, of which calls are drawn.
type row struct {
	dice
	t      *testing.T
	trees  []*both
	of     uint64 // leaves are drawn out of so many numbers
	places int    // and flips are mostly of so many leaves
}

func (r *row) call() {
	r.t.Helper()
	b := one(r.dice, r.trees...)
	switch k := r.IntN(20); {
	case k == 0:
		r.add(newBoth(r.t))
	case k == 1:
		r.add(bothOf(r.t, r.leaves(64, r.of)))
	case k == 2 && b.tree != nil:
		r.add(bothOf(r.t, b.tree.Leaves()))
	case k == 3:
		n := one(r.dice, 0, 1, 63, 65, 66+r.IntN(100))
		if tree, e := Of(r.leaves(n, r.of)); tree != nil || e != api.ErrArg {
			r.t.Fatalf("Of %d leaves: %v, %d", n, tree, e)
		}
	case k == 4:
		b.flip(one(r.dice, strangeLeaves()...), r.number(r.of))
	case k == 5 && b.tree != nil:
		r.fake(b)
	case k < 14:
		b.flip(r.IntN(r.places), r.number(r.of))
	default:
		b.walk(one(r.dice, r.trees...))
	}
	for i, c := range r.trees {
		c.check(fmt.Sprint("a call, tree ", i))
	}
}

// add keeps few, so that what is walked often has grown side by side.
func (r *row) add(b *both) {
	if len(r.trees) < 5 {
		r.trees = append(r.trees, b)
		return
	}
	r.trees[1+r.IntN(4)] = b
}

// fake adds a tree that has other leaves, but below one node, which is the same.
func (r *row) fake(b *both) {
	width := 2 << r.IntN(6)
	first := r.IntN(64/width) * width
	leaves := slices.Clone(b.leaves)
	part := leaves[first : first+width]
	part[r.IntN(width-1)] ^= r.Uint64()
	forge(part, above(b.leaves[first:first+width]))
	c := bothOf(r.t, leaves)
	if _, looked := b.walk(c); looked != 1 {
		r.t.Fatalf("a walk of two with one root looks at %d nodes", looked)
	}
	r.add(c)
}
