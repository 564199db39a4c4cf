package lru

import (
	"math"
	"slices"
	"testing"

	"tattler/api"
)

// expect lays Order, and Oldest, against a row that was reckoned by hand.
func expect(t *testing.T, l *List, want ...int) {
	t.Helper()
	if got := l.Order(); !slices.Equal(got, want) {
		t.Errorf("Order: %d, not %d", got, want)
	}
	oldest, some := l.Oldest()
	if len(want) == 0 && (some || oldest != 0) {
		t.Errorf("Oldest: %d, %v, where there is none", oldest, some)
	}
	if len(want) > 0 && (!some || oldest != want[len(want)-1]) {
		t.Errorf("Oldest: %d, %v, of %d", oldest, some, want)
	}
}

func expectUse(t *testing.T, l *List, i int, want api.Errno) {
	t.Helper()
	if e := l.Use(i); e != want {
		t.Errorf("Use(%d): %d, not %d", i, e, want)
	}
}

func expectDrop(t *testing.T, l *List, i int, want bool) {
	t.Helper()
	if there := l.Drop(i); there != want {
		t.Errorf("Drop(%d): %v, not %v", i, there, want)
	}
}

// P11.1: the chapter's examples.
func TestExamples(t *testing.T) {
	l := newList(t, 3)
	for _, i := range []int{0, 1, 2, 0} {
		expectUse(t, l, i, api.OK)
	}
	expect(t, l, 0, 2, 1)
	expectDrop(t, l, 2, true)
	expect(t, l, 0, 1)
}

// P11.1: a list is for 1 to MaxSlots numbers, and begins without any.
func TestNew(t *testing.T) {
	for _, n := range []int{math.MinInt, math.MinInt + 1, math.MinInt32, -api.MaxSlots, -2, -1, 0, api.MaxSlots + 1, 2 * api.MaxSlots, math.MaxInt32, math.MaxUint32 + 2, math.MaxInt - 1, math.MaxInt} {
		if l, e := New(n); l != nil || e != api.ErrArg {
			t.Errorf("New(%d): %v, %d", n, l, e)
		}
	}
	for _, n := range []int{1, 2, 3, api.MaxSlots - 1, api.MaxSlots} {
		l := newList(t, n)
		expect(t, l)
		expectDrop(t, l, 0, false)
		expectDrop(t, l, n-1, false)
		expect(t, l)
		expectUse(t, l, n, api.ErrArg)
		expectUse(t, l, n-1, api.OK)
		expect(t, l, n-1)
	}
}

// P11.1: a list for each size there may be has just its numbers.
func TestEverySize(t *testing.T) {
	for n := 1; n <= api.MaxSlots; n++ {
		l := newList(t, n)
		for i := -1; i <= n; i++ {
			want := api.OK
			if i < 0 || i >= n {
				want = api.ErrArg
			}
			expectUse(t, l, i, want)
		}
		want := below(n)
		slices.Reverse(want)
		expect(t, l, want...)
	}
}

// P11.1: what is none of a list's numbers is ErrArg to Use and false to Drop, and changes nothing: with none there, with one, with some and with all.
func TestStrangeNumbers(t *testing.T) {
	for _, n := range []int{1, 2, 3, api.MaxSlots} {
		for _, there := range []int{0, 1, n / 2, n} {
			b := newBoth(t, n)
			for i := range there {
				expectUse(t, b.list, i, api.OK)
				b.model.use(i)
			}
			b.check("the uses")
			order := b.list.Order()
			for _, i := range strange(n) {
				expectUse(t, b.list, i, api.ErrArg)
				expect(t, b.list, order...)
				expectDrop(t, b.list, i, false)
				expect(t, b.list, order...)
			}
		}
	}
}

// P11.1: Use and Drop of the edges of what is a list's number.
func TestEdgeNumbers(t *testing.T) {
	for _, n := range []int{1, 2, 3, api.MaxSlots} {
		b := newBoth(t, n)
		for _, first := range []int{0, n - 1} {
			for _, i := range []int{math.MinInt, -1, 0, n - 1, n, n + 1, math.MaxInt} {
				b.use(first)
				if e := b.use(i); (e == api.OK) != (i == 0 || i == n-1) {
					t.Errorf("for %d numbers: Use(%d): %d", n, i, e)
				}
				if there := b.drop(i); there != (i == 0 || i == n-1) {
					t.Errorf("for %d numbers: Drop(%d): %v", n, i, there)
				}
			}
		}
	}
}

// P11.1, P11.2: a number that is used or dropped, wherever it stands: the first one, a middle one, the last one, the only one, and one that isn't there.
func TestPlaces(t *testing.T) {
	for _, c := range []struct {
		uses          []int
		i             int
		used, dropped []int
		there         bool
	}{
		{nil, 0, []int{0}, nil, false},
		{nil, 4, []int{4}, nil, false},
		{[]int{0}, 0, []int{0}, nil, true},
		{[]int{4}, 4, []int{4}, nil, true},
		{[]int{4}, 0, []int{0, 4}, []int{4}, false},
		{[]int{0}, 4, []int{4, 0}, []int{0}, false},
		{[]int{0, 1}, 1, []int{1, 0}, []int{0}, true},
		{[]int{0, 1}, 0, []int{0, 1}, []int{1}, true},
		{[]int{0, 1}, 2, []int{2, 1, 0}, []int{1, 0}, false},
		{[]int{2, 0, 1}, 1, []int{1, 0, 2}, []int{0, 2}, true},
		{[]int{2, 0, 1}, 0, []int{0, 1, 2}, []int{1, 2}, true},
		{[]int{2, 0, 1}, 2, []int{2, 1, 0}, []int{1, 0}, true},
		{[]int{2, 0, 1}, 3, []int{3, 1, 0, 2}, []int{1, 0, 2}, false},
		{[]int{0, 1, 2, 3, 4}, 4, []int{4, 3, 2, 1, 0}, []int{3, 2, 1, 0}, true},
		{[]int{0, 1, 2, 3, 4}, 3, []int{3, 4, 2, 1, 0}, []int{4, 2, 1, 0}, true},
		{[]int{0, 1, 2, 3, 4}, 2, []int{2, 4, 3, 1, 0}, []int{4, 3, 1, 0}, true},
		{[]int{0, 1, 2, 3, 4}, 1, []int{1, 4, 3, 2, 0}, []int{4, 3, 2, 0}, true},
		{[]int{0, 1, 2, 3, 4}, 0, []int{0, 4, 3, 2, 1}, []int{4, 3, 2, 1}, true},
		{[]int{0, 0, 3, 0, 3, 3}, 0, []int{0, 3}, []int{3}, true},
	} {
		used, dropped := newBoth(t, 5), newBoth(t, 5)
		used.useAll(c.uses...)
		dropped.useAll(c.uses...)
		used.use(c.i)
		expect(t, used.list, c.used...)
		if there := dropped.drop(c.i); there != c.there {
			t.Errorf("behind the uses %d: Drop(%d): %v", c.uses, c.i, there)
		}
		expect(t, dropped.list, c.dropped...)
		if t.Failed() {
			t.Fatalf("behind the uses %d: %d", c.uses, c.i)
		}
	}
}

// P11.1: a number that is dropped twice, that was never used, that is used anew.
func TestDrops(t *testing.T) {
	for _, n := range []int{3, 4, api.MaxSlots} {
		l := newList(t, n)
		expectUse(t, l, 0, api.OK)
		expectUse(t, l, 1, api.OK)
		expectDrop(t, l, 2, false)
		expect(t, l, 1, 0)
		expectDrop(t, l, 0, true)
		expectDrop(t, l, 0, false)
		expectDrop(t, l, 0, false)
		expect(t, l, 1)
		expectUse(t, l, 0, api.OK)
		expect(t, l, 0, 1)
		expectDrop(t, l, 0, true)
		expectDrop(t, l, 1, true)
		expectDrop(t, l, 1, false)
		expect(t, l)
		expectUse(t, l, 1, api.OK)
		expect(t, l, 1)
		expectUse(t, l, 0, api.OK)
		expect(t, l, 0, 1)
	}
}

// P11.1: Oldest and Order with none, one, two and all numbers, and asked again they answer the same.
func TestAsking(t *testing.T) {
	for _, n := range []int{1, 2, 3, 4, 50, api.MaxSlots} {
		b := newBoth(t, n)
		for i := range n {
			for range 3 {
				b.check("a question")
			}
			b.use(i)
		}
		if len(b.last) != n {
			t.Errorf("for %d numbers: %d are there", n, len(b.last))
		}
		for range 3 {
			b.check("a question")
		}
	}
}

// P11.1, P11.2: Oldest, and its drop, again and again until there is none: by the moments of their last use.
func TestOldestByOldest(t *testing.T) {
	for _, n := range []int{1, 2, 3, 4, 50, 300} {
		d := newDice(uint64(n))
		b := newBoth(t, n)
		for range 3 {
			row := append(d.Perm(n), d.Perm(n)...)
			b.useAll(row...)
			for _, want := range row[n:] {
				oldest, some := b.list.Oldest()
				if oldest != want || !some {
					t.Fatalf("for %d numbers: Oldest is %d, %v, not %d", n, oldest, some, want)
				}
				b.drop(oldest)
			}
			expect(t, b.list)
			b.drop(0)
		}
	}
}

// P11.1: what Order answered stays as it is when the list changes, and the list when what Order answered is changed, its spare room too.
func TestOrderStandsApart(t *testing.T) {
	for _, n := range []int{1, 2, 3, 8, 100, api.MaxSlots} {
		b := newBoth(t, n)
		none := b.list.Order()
		for i := range n {
			b.list.Use(i)
			b.model.use(i)
		}
		all, again := b.list.Order(), b.list.Order()
		want := slices.Clone(all)
		b.list.Use(0)
		b.model.use(0)
		b.list.Drop(n - 1)
		b.model.drop(n - 1)
		if len(none) != 0 || !slices.Equal(all, want) || !slices.Equal(again, want) {
			t.Errorf("for %d numbers: %d and %d, not %d", n, all, again, want)
		}
		room := all[:cap(all)]
		for i := range room {
			room[i] = -7
		}
		_ = append(none, -7)
		b.check("a change of what Order answered")
		if !slices.Equal(again, want) {
			t.Errorf("for %d numbers: %d shares another answer's memory", n, again)
		}
		b.use(n - 1)
		b.use(0)
	}
}

// P11.1, P11.2: lists side by side know nothing of each other.
func TestTwoLists(t *testing.T) {
	for _, sizes := range [][2]int{{1, 1}, {1, 4}, {4, 4}, {20, 30}} {
		d := newDice(uint64(sizes[1]))
		two := [2]*both{newBoth(t, sizes[0]), newBoth(t, sizes[1])}
		for range 1000 {
			k := d.IntN(2)
			drawnCall(two[k], d, sizes[1], 60)
			two[1-k].check("a call of the other list")
		}
	}
}

// P11.1: no call of a nil list does anything.
func TestNil(t *testing.T) {
	var l *List
	for _, i := range append(strange(1), 0, 1, 1023) {
		expectUse(t, l, i, api.ErrArg)
		expectDrop(t, l, i, false)
		expect(t, l)
	}
}

// everyRow calls f with each row of so many numbers below a bound.
func everyRow(length, bound int, f func([]int)) {
	row := make([]int, length)
	for {
		f(row)
		i := 0
		for i < length && row[i] == bound-1 {
			row[i] = 0
			i++
		}
		if i == length {
			return
		}
		row[i]++
	}
}

// P11.1, P11.2: every row of few calls of short lists: uses of each number, and of one that is none of them; then drops, likewise.
func TestEveryRowOfCalls(t *testing.T) {
	for _, c := range []struct{ n, calls int }{{1, 7}, {2, 6}, {3, 5}, {4, 4}} {
		kinds := c.n + 1
		everyRow(c.calls, 2*kinds, func(calls []int) {
			b := newBoth(t, c.n)
			for _, k := range calls {
				if k < kinds {
					b.use(k)
				} else {
					b.drop(k - kinds)
				}
			}
		})
	}
}

// P11.1, P11.2: long rows of calls, drawn, of lists of many sizes, out of few numbers and of many.
func TestDrawnRows(t *testing.T) {
	for _, n := range []int{1, 2, 3, 4, 5, 6, 7, 8, 9, 16, 31, 64, 100} {
		for i, numbers := range []int{1, 2, n/2 + 1, n, n + 1 + n/4} {
			drawnRow(newBoth(t, n), newDice(uint64(n*10+i)), numbers, 1500)
		}
	}
	for _, n := range []int{511, 512, 1000, api.MaxSlots - 1, api.MaxSlots} {
		for i, numbers := range []int{3, 40, n, n + n/20 + 1} {
			drawnRow(newBoth(t, n), newDice(uint64(n*10+i)), numbers, 400)
		}
	}
	for seed := range uint64(500) {
		d := newDice(20000 + seed)
		n := 1 + d.IntN(40)
		drawnRow(newBoth(t, n), d, 1+d.IntN(n+3), 200)
	}
}

// drawnRow begins with an empty list, or a half or wholly full one, and grows or shrinks it by turns.
func drawnRow(b *both, d dice, numbers, calls int) {
	b.t.Helper()
	for i := range one(d, 0, b.model.n/2, b.model.n) {
		b.list.Use(i)
		b.model.use(i)
	}
	b.check("the first uses")
	uses := 50
	for i := range calls {
		if i%50 == 0 {
			uses = one(d, 10, 50, 90)
		}
		drawnCall(b, d, numbers, uses)
	}
}

// drawnCall is a use, in so many of a hundred calls, or a drop: mostly of a number below a bound, now and then of the oldest one or of one that may be none of the list's.
func drawnCall(b *both, d dice, numbers, uses int) {
	b.t.Helper()
	i := d.IntN(numbers)
	switch d.IntN(20) {
	case 0:
		i = one(d, strange(b.model.n)...)
	case 1, 2:
		i, _ = b.list.Oldest()
	}
	if d.IntN(100) < uses {
		b.use(i)
	} else {
		b.drop(i)
	}
}
