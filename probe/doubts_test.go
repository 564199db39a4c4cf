package probe

import (
	"math"
	"slices"
	"testing"

	"tattler/api"
)

// expectOver lays what is over against a row that was reckoned by hand.
func expectOver(t *testing.T, b *twoDoubts, now uint64, want ...api.News) {
	t.Helper()
	if got := b.over(now); !slices.Equal(got, want) {
		t.Fatalf("%s: %v, not %v", b.calls, got, want)
	}
}

// expect lays the last call's bool against what was reckoned by hand.
func expect(t *testing.T, b *twoDoubts, got, want bool) {
	t.Helper()
	if got != want {
		t.Fatalf("%s: %v", b.calls, got)
	}
}

// P19.1: NewDoubts of all edges: ErrArg, and no doubts, wherever ticks is not from 1 to 1000.
func TestNewDoubts(t *testing.T) {
	for _, ticks := range far() {
		if ticks >= 1 && ticks <= 1000 {
			b := newTwoDoubts(t, ticks)
			expectOver(t, b, math.MaxUint64)
			expect(t, b, b.end(0, math.MaxUint32), false)
			expect(t, b, b.begin(0, 0, 0), true)
			expectOver(t, b, uint64(ticks-1))
			expectOver(t, b, uint64(ticks), dead(0, 0))
			continue
		}
		if d, e := NewDoubts(ticks); d != nil || e != api.ErrArg {
			t.Fatalf("NewDoubts(%d): %v, %d", ticks, d, e)
		}
	}
}

// P19.1: Begin of a lesser, of the same and of a greater incarnation than that of a doubt that stands.
func TestBegin(t *testing.T) {
	b := newTwoDoubts(t, 10)
	expect(t, b, b.begin(3, 5, 100), true)
	expect(t, b, b.begin(3, 5, 100), false)
	expect(t, b, b.begin(3, 5, 103), false)
	expect(t, b, b.begin(3, 4, 104), false)
	expect(t, b, b.begin(3, 0, 1), false)
	// What was refused has changed nothing: the first one is over at its time.
	expectOver(t, b, 109)
	expectOver(t, b, 110, dead(3, 5))
	expectOver(t, b, 111)
	expect(t, b, b.begin(3, 5, 200), true)
	expect(t, b, b.begin(3, 6, 205), true)
	expectOver(t, b, 210)
	expectOver(t, b, 214)
	expectOver(t, b, 215, dead(3, 6))
	expectOver(t, b, 1<<40)
	// A greater one stands instead, though it is over sooner.
	expect(t, b, b.begin(3, 7, 300), true)
	expect(t, b, b.begin(3, math.MaxUint32, 280), true)
	expect(t, b, b.begin(3, math.MaxUint32, 1), false)
	expectOver(t, b, 290, dead(3, math.MaxUint32))
	expectOver(t, b, 310)
}

// P19.1: one node's doubt is none of another one's.
func TestBeginOfOthers(t *testing.T) {
	b := newTwoDoubts(t, 1000)
	for node := range 256 {
		expect(t, b, b.begin(uint8(node), uint32(256-node), 7), true)
	}
	for node := range 256 {
		expect(t, b, b.begin(uint8(node), uint32(256-node), 8), false)
	}
	for node := 0; node < 256; node += 2 {
		expect(t, b, b.end(uint8(node), uint32(257-node)), true)
	}
	var odd []api.News
	for node := 1; node < 256; node += 2 {
		odd = append(odd, dead(uint8(node), uint32(256-node)))
	}
	expectOver(t, b, 1006)
	expectOver(t, b, 1007, odd...)
	expectOver(t, b, math.MaxUint64)
}

// P19.1: End of a lesser, of the same and of a greater incarnation, and of a node without a doubt.
func TestEnd(t *testing.T) {
	b := newTwoDoubts(t, 10)
	expect(t, b, b.end(3, 0), false)
	expect(t, b, b.end(3, math.MaxUint32), false)
	b.begin(3, 5, 100)
	expect(t, b, b.end(4, 9), false)
	expect(t, b, b.end(3, 4), false)
	expect(t, b, b.end(3, 5), false)
	expectOver(t, b, 109)
	expectOver(t, b, 110, dead(3, 5))
	expect(t, b, b.end(3, 6), false)
	b.begin(3, 5, 120)
	expect(t, b, b.end(3, 6), true)
	expect(t, b, b.end(3, 6), false)
	expectOver(t, b, 130)
	b.begin(3, math.MaxUint32, 140)
	expect(t, b, b.end(3, math.MaxUint32), false)
	b.begin(2, math.MaxUint32-1, 140)
	expect(t, b, b.end(2, math.MaxUint32), true)
	b.begin(0, 0, 140)
	expect(t, b, b.end(0, 0), false)
	expect(t, b, b.end(0, 1), true)
	expectOver(t, b, 150, dead(3, math.MaxUint32))
}

// P19.1: behind Over and behind End a doubt may begin anew, of any incarnation.
func TestBeginAnew(t *testing.T) {
	for _, inc := range []uint32{0, 4, 5, 6, math.MaxUint32} {
		b := newTwoDoubts(t, 10)
		b.begin(3, 5, 100)
		expectOver(t, b, 110, dead(3, 5))
		expect(t, b, b.begin(3, inc, 110), true)
		expectOver(t, b, 119)
		expectOver(t, b, 120, dead(3, inc))
		b.begin(3, 5, 130)
		expect(t, b, b.end(3, 9), true)
		expect(t, b, b.begin(3, inc, 131), true)
		expectOver(t, b, 140)
		expectOver(t, b, 141, dead(3, inc))
		expectOver(t, b, math.MaxUint64)
	}
}

// P19.1, P19.4: Over ahead of a doubt's time, at it and behind it.
func TestOver(t *testing.T) {
	for _, ticks := range []int{1, 2, 10, 999, 1000} {
		for _, from := range []uint64{0, 1, 77, api.MaxTime - 1000, 1 << 62, 1<<63 - 5, 1 << 63} {
			end := from + uint64(ticks)
			for _, first := range []uint64{end, end + 1, end + 1000, math.MaxUint64} {
				b := newTwoDoubts(t, ticks)
				b.begin(9, 2, from)
				expectOver(t, b, 0)
				expectOver(t, b, from)
				expectOver(t, b, end-1)
				expectOver(t, b, first, dead(9, 2))
				expectOver(t, b, first)
				expectOver(t, b, math.MaxUint64)
			}
		}
	}
}

// P19.4: a doubt whose end is beyond the greatest number of 64 bits isn't over at any.
func TestOverBeyondAllTimes(t *testing.T) {
	for _, ticks := range []int{1, 2, 1000} {
		for back := range uint64(ticks) {
			b := newTwoDoubts(t, ticks)
			from := math.MaxUint64 - back
			b.begin(9, 2, from)
			for _, now := range []uint64{0, 1, uint64(ticks), 1 << 63, from - 1, from, math.MaxUint64 - 1, math.MaxUint64} {
				expectOver(t, b, now)
			}
			expect(t, b, b.begin(9, 2, 0), false)
			expect(t, b, b.end(9, 3), true)
		}
		b := newTwoDoubts(t, ticks)
		b.begin(9, 2, math.MaxUint64-uint64(ticks))
		expectOver(t, b, math.MaxUint64-1)
		expectOver(t, b, math.MaxUint64, dead(9, 2))
	}
}

// P19.4: a time ahead of a doubt's beginning is no time that has gone by.
func TestOverAheadOfBeginning(t *testing.T) {
	b := newTwoDoubts(t, 10)
	b.begin(1, 0, 500)
	for now := range uint64(510) {
		expectOver(t, b, now)
	}
	expectOver(t, b, 510, dead(1, 0))
}

// P19.1: many doubts at once are told by rising nodes, whatever the order in which they began and are over; each once, and never again.
func TestOverRises(t *testing.T) {
	for seed := range uint64(30) {
		d := newDice(600 + seed)
		b := newTwoDoubts(t, 50)
		for _, node := range d.Perm(256) {
			b.begin(uint8(node), uint32(node%7), uint64(d.IntN(100)))
		}
		var seen [256]int
		for now := uint64(0); now < 160; now += uint64(1 + d.IntN(40)) {
			l := b.over(now)
			for i, x := range l {
				seen[x.Node]++
				if i > 0 && l[i-1].Node >= x.Node {
					t.Fatalf("%v", l)
				}
			}
		}
		for _, x := range b.over(160) {
			seen[x.Node]++
		}
		for node, times := range seen {
			if times != 1 {
				t.Fatalf("%d was told %d times", node, times)
			}
		}
	}
}

// R3: what Over answered may be changed, its spare room too, without a change of the doubts, and is not changed by later calls.
func TestNewsStandApart(t *testing.T) {
	for _, many := range []int{1, 2, 3, 5, 8, 33, 64} {
		b := newTwoDoubts(t, 2)
		for node := range many {
			b.begin(uint8(node), 1, 0)
			b.begin(uint8(100+node), 1, 5)
		}
		kept := spoil(b.over(2), dead(99, 99))
		b.begin(5, 2, 6)
		again := spoil(b.over(7), dead(98, 98))
		b.begin(6, 2, 8)
		b.drain()
		if !kept() || !again() {
			t.Fatalf("%d: what was answered has changed", many)
		}
	}
}

// R2: two Doubts side by side: neither changes the other one.
func TestTwoDoubts(t *testing.T) {
	a, b := newTwoDoubts(t, 5), newTwoDoubts(t, 7)
	a.begin(1, 1, 0)
	expectOver(t, b, 100)
	expect(t, b, b.end(1, 9), false)
	expect(t, b, b.begin(1, 0, 0), true)
	expect(t, a, a.end(1, 1), false)
	expectOver(t, a, 4)
	expectOver(t, a, 5, dead(1, 1))
	expectOver(t, b, 6)
	expectOver(t, b, 7, dead(1, 0))
}

// P19.1, P19.4: every row of few calls, of two nodes and few incarnations, in a time that goes on by each call.
func TestEveryRowOfDoubts(t *testing.T) {
	const kinds, calls = 9, 5
	rows := 1
	for range calls {
		rows *= kinds
	}
	for _, ticks := range []int{1, 2, 3} {
		for row := range rows {
			b := newTwoDoubts(t, ticks)
			for now := range uint64(calls) {
				b.digit(row%kinds, now)
				row /= kinds
			}
			b.drain()
		}
	}
}

// digit is one call of a row.
func (b *twoDoubts) digit(k int, now uint64) {
	b.t.Helper()
	node, inc := uint8(k%2), uint32(k/2%2)
	switch {
	case k < 4:
		b.begin(node, inc, now)
	case k < 8:
		b.end(node, inc+1)
	default:
		b.over(now)
	}
}

// P19.1, P19.4: long rows of calls, drawn, of few nodes and of many, at small and great times.
func TestDrawnDoubts(t *testing.T) {
	seed := uint64(700)
	for _, ticks := range []int{1, 2, 3, 10, 100, 1000} {
		for _, nodes := range []int{1, 2, 3, 8, 64, 256} {
			for _, from := range []uint64{0, 5000, api.MaxTime, 1<<63 - 20, math.MaxUint64 - 500} {
				seed++
				newTwoDoubts(t, ticks).drawnCalls(newDice(seed), from, nodes, 250)
			}
		}
	}
}
