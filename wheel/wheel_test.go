package wheel

import (
	"math"
	"slices"
	"testing"
)

func expectDue(t *testing.T, w *Wheel, now uint64, want ...int) {
	t.Helper()
	if told := w.Due(now); !slices.Equal(told, want) {
		t.Errorf("Due(%d): %d, not %d", now, told, want)
	}
}

func expectDrop(t *testing.T, w *Wheel, id int, want bool) {
	t.Helper()
	if there := w.Drop(id); there != want {
		t.Errorf("Drop(%d): %v, not %v", id, there, want)
	}
}

func expectNext(t *testing.T, w *Wheel, length int, want uint64) {
	t.Helper()
	if next, some := w.Next(); next != want || !some || w.Len() != length {
		t.Errorf("Next: %d, %v, not %d; Len: %d, not %d", next, some, want, w.Len(), length)
	}
}

func expectNothing(t *testing.T, w *Wheel) {
	t.Helper()
	if next, some := w.Next(); next != 0 || some || w.Len() != 0 {
		t.Errorf("Next: %d, %v; Len: %d; of a wheel with nothing", next, some, w.Len())
	}
}

// P12.1, P12.2: the chapter's examples.
func TestExamples(t *testing.T) {
	w := New()
	expectNothing(t, w)
	w.Add(1, 70)
	expectNext(t, w, 1, 70)
	w.Add(2, 6)
	expectNext(t, w, 2, 6)
	w.Add(1, 8)
	expectNext(t, w, 2, 6)
	expectDue(t, w, 7, 2)
	expectNext(t, w, 1, 8)
	expectDue(t, w, 8, 1)
	expectNothing(t, w)
	expectDue(t, w, 100)
	expectNothing(t, w)
}

// P12.1: a new wheel has nothing, and nothing of it is due or can be dropped.
func TestNew(t *testing.T) {
	w := New()
	if w == nil {
		t.Fatal("New: nil")
	}
	expectNothing(t, w)
	for _, now := range edgeTimes() {
		expectDue(t, w, now)
	}
	for _, id := range edgeIDs() {
		expectDrop(t, w, id, false)
	}
	expectNothing(t, w)
}

// P12.1, P12.2: each of the edge times with each of the edge ids, alone: told at its time, not ahead of it, and not again.
func TestEdgesAlone(t *testing.T) {
	for _, due := range edgeTimes() {
		for _, id := range edgeIDs() {
			w := New()
			w.Add(id, due)
			expectNext(t, w, 1, due)
			expectDue(t, w, 0, onlyIf(due == 0, id)...)
			if due > 0 {
				expectDue(t, w, due-1)
				expectNext(t, w, 1, due)
				expectDue(t, w, due, id)
			}
			expectNothing(t, w)
			expectDue(t, w, due)
			expectDue(t, w, math.MaxUint64)
			expectDrop(t, w, id, false)
		}
	}
}

func onlyIf(is bool, id int) []int {
	if is {
		return []int{id}
	}
	return nil
}

// P12.1, P12.2: all edge times in one wheel, asked at each of them, at the number below and at the number above.
func TestEdgeTimesTogether(t *testing.T) {
	d := newDice(1)
	for range 50 {
		b := newBoth(t)
		times := edgeTimes()
		for i, k := range d.Perm(len(times)) {
			b.add(i, times[k])
			b.add(1000-i, times[k])
		}
		for _, now := range times {
			b.due(max(now, 1) - 1)
			b.due(now)
			b.due(min(now, math.MaxUint64-1) + 1)
		}
		expectNothing(t, b.wheel)
		b.onceInTime()
	}
}

// P12.1: of one time by ids, rising, however they were added.
func TestManyOfOneTime(t *testing.T) {
	d := newDice(2)
	for _, due := range []uint64{0, 1, 63, 64, 1 << 32, 1 << 63, math.MaxUint64} {
		ids := edgeIDs()
		for i := 200; i < 500; i++ {
			ids = append(ids, i, -i)
		}
		slices.Sort(ids)
		falling, mixed := slices.Clone(ids), slices.Clone(ids)
		slices.Reverse(falling)
		d.Shuffle(len(mixed), func(i, k int) { mixed[i], mixed[k] = mixed[k], mixed[i] })
		for _, row := range [][]int{ids, falling, mixed} {
			w := New()
			for i, id := range row {
				w.Add(id, due)
				expectNext(t, w, i+1, due)
			}
			if due > 0 {
				expectDue(t, w, due-1)
			}
			expectDue(t, w, due, ids...)
			expectNothing(t, w)
			if t.Failed() {
				t.FailNow()
			}
		}
	}
}

// P12.1, P12.2: times that are 64, or a multiple of it, apart are told each in its own time.
func TestTurnsApart(t *testing.T) {
	for _, apart := range []uint64{64, 128, 192, 64 * 64, 1 << 32, 1 << 58} {
		for _, first := range []uint64{0, 1, 63, 64, 100} {
			rising, falling := newBoth(t), newBoth(t)
			for i := range uint64(20) {
				rising.add(int(i), first+i*apart)
				falling.add(int(19-i), first+(19-i)*apart)
			}
			for i := range uint64(20) {
				for _, b := range []*both{rising, falling} {
					expectNext(t, b.wheel, 20-int(i), first+i*apart)
					if told := b.due(first + i*apart); !slices.Equal(told, []int{int(i)}) {
						t.Errorf("%d apart, from %d on: Due: %d, not %d", apart, first, told, i)
					}
					if told := b.due(first + i*apart + apart - 1); len(told) != 0 {
						t.Errorf("%d apart, from %d on: %d is told too early", apart, first, told)
					}
				}
			}
			rising.onceInTime()
			falling.onceInTime()
		}
	}
}

// P12.1: by times ahead of ids, whichever buckets they lie in.
func TestOrderAcrossBuckets(t *testing.T) {
	w := New()
	for i, due := range []uint64{130, 2, 66, 65, 64, 63, 1, 2, 0, 66} {
		w.Add(20-i, due)
	}
	expectNext(t, w, 10, 0)
	expectDue(t, w, 130, 12, 14, 13, 19, 15, 16, 17, 11, 18, 20)
	expectNothing(t, w)
}

// P12.1, P12.2: what is added anew has its last time only: the same, an earlier one, a later one, of the same bucket and of another.
func TestAddedAnew(t *testing.T) {
	for _, c := range []struct{ first, then uint64 }{
		{5, 5}, {0, 0}, {math.MaxUint64, math.MaxUint64},
		{70, 8}, {70, 6}, {64, 0}, {math.MaxUint64, 0}, {1 << 63, 1 << 32},
		{8, 70}, {6, 70}, {0, 64}, {0, math.MaxUint64}, {1 << 32, 1 << 63}, {63, 64}, {64, 63},
	} {
		b := newBoth(t)
		b.add(3, c.first)
		b.add(3, c.then)
		expectNext(t, b.wheel, 1, c.then)
		if c.then > 0 {
			b.due(c.then - 1)
			expectNext(t, b.wheel, 1, c.then)
		}
		expectDue(t, b.wheel, c.then, 3)
		expectDue(t, b.wheel, math.MaxUint64)
		expectNothing(t, b.wheel)
	}
}

// P12.1, P12.2: what is added anew behind its drop, and behind its Due, is there again, once.
func TestAddedAgain(t *testing.T) {
	for _, first := range []uint64{0, 5, 63, 64, 69, 1 << 63, math.MaxUint64} {
		for _, then := range []uint64{0, 5, 63, 64, 69, 1 << 63, math.MaxUint64} {
			w := New()
			w.Add(7, first)
			expectDrop(t, w, 7, true)
			expectNothing(t, w)
			w.Add(7, then)
			expectNext(t, w, 1, then)
			expectDue(t, w, max(first, then), 7)
			expectDue(t, w, math.MaxUint64)
			w.Add(7, first)
			expectDue(t, w, first, 7)
			w.Add(7, then)
			expectNext(t, w, 1, then)
			expectDue(t, w, then, 7)
			expectDue(t, w, math.MaxUint64)
			expectNothing(t, w)
		}
	}
}

// P12.1: Drop of what was never added, of what was dropped already, of what was told already, and of the only one.
func TestDrops(t *testing.T) {
	w := New()
	expectDrop(t, w, 1, false)
	w.Add(1, 10)
	expectDrop(t, w, 2, false)
	expectDrop(t, w, 10, false)
	expectNext(t, w, 1, 10)
	expectDrop(t, w, 1, true)
	expectNothing(t, w)
	expectDrop(t, w, 1, false)
	expectDue(t, w, 10)
	w.Add(1, 10)
	w.Add(2, 74)
	expectDue(t, w, 73, 1)
	expectDrop(t, w, 1, false)
	expectNext(t, w, 1, 74)
	expectDrop(t, w, 2, true)
	expectDrop(t, w, 2, false)
	expectNothing(t, w)
	expectDue(t, w, math.MaxUint64)
}

// P12.1: each one of many, of one bucket or of several, can be dropped, and the others stay.
func TestDropOfEach(t *testing.T) {
	for _, step := range []uint64{0, 1, 32, 64, 65} {
		for n := 1; n <= 20; n++ {
			for out := range n {
				b := newBoth(t)
				for _, i := range newDice(uint64(n)).Perm(n) {
					b.add(i, uint64(i)*step)
				}
				b.drop(out)
				for now := range 20*step + 1 {
					b.due(now)
				}
				expectNothing(t, b.wheel)
				b.onceInTime()
			}
		}
	}
}

// P12.1: Due at a time below all, at just the least one, between two, at the greatest number, and twice at the same time.
func TestDueTimes(t *testing.T) {
	w := New()
	for i, due := range []uint64{500, 100, 300, 100, 1 << 63, math.MaxUint64} {
		w.Add(i, due)
	}
	expectDue(t, w, 0)
	expectDue(t, w, 99)
	expectNext(t, w, 6, 100)
	expectDue(t, w, 100, 1, 3)
	expectDue(t, w, 100)
	expectNext(t, w, 4, 300)
	expectDue(t, w, 299)
	expectDue(t, w, 400, 2)
	expectDue(t, w, 400)
	expectNext(t, w, 3, 500)
	expectDue(t, w, math.MaxUint64-1, 0, 4)
	expectNext(t, w, 1, math.MaxUint64)
	expectDue(t, w, math.MaxUint64, 5)
	expectDue(t, w, math.MaxUint64)
	expectNothing(t, w)
}

// P12.1, P12.2: a Due may be below one ahead; something added at a time that was asked already is told by the next Due that isn't below it.
func TestDueGoesBack(t *testing.T) {
	for _, asked := range []uint64{1000, 1 << 63, math.MaxUint64} {
		w := New()
		w.Add(1, 10)
		expectDue(t, w, asked, 1)
		w.Add(2, 20)
		w.Add(3, 30)
		w.Add(4, 20+64)
		expectNext(t, w, 3, 20)
		expectDue(t, w, 19)
		expectDue(t, w, 20, 2)
		w.Add(5, 5)
		expectNext(t, w, 3, 5)
		expectDue(t, w, 4)
		expectDue(t, w, 29, 5)
		w.Add(6, 0)
		expectDue(t, w, 0, 6)
		expectDue(t, w, asked, 3, 4)
		expectNothing(t, w)
	}
}

// P12.1: Next and Len with many, as each one comes and goes; asked again they answer the same.
func TestNextAndLen(t *testing.T) {
	for _, step := range []uint64{1, 7, 64, 1 << 40} {
		b := newBoth(t)
		d := newDice(step)
		for _, i := range d.Perm(300) {
			b.add(i, uint64(i)*step)
			b.check("a question")
			b.check("a question")
		}
		for _, i := range d.Perm(300)[:150] {
			b.drop(i)
			b.check("a question")
		}
		for b.wheel.Len() > 0 {
			next, _ := b.wheel.Next()
			if told := b.due(next); len(told) != 1 || uint64(told[0])*step != next {
				t.Fatalf("Due(%d): %d", next, told)
			}
		}
		b.onceInTime()
	}
}

// P12.1: what Due answered stays as it is when the wheel changes, and the wheel when what Due answered is changed, its spare room too.
func TestDueStandsApart(t *testing.T) {
	for _, n := range []int{1, 2, 3, 8, 100, 1000} {
		b := newBoth(t)
		for i := range n {
			b.add(i, uint64(i%70))
			b.add(n+i, uint64(100+i%70))
		}
		none := b.wheel.Due(0)[:0]
		b.model.due(0)
		first := b.due(99)
		want := slices.Clone(first)
		for i := range n {
			b.add(i, uint64(i%64))
		}
		second := b.due(120)
		wantSecond := slices.Clone(second)
		if !slices.Equal(first, want) {
			t.Errorf("%d of a time: %d, not %d", n, first, want)
		}
		for _, l := range [][]int{none, first} {
			room := l[:cap(l)]
			for i := range room {
				room[i] = -7
			}
		}
		b.check("a change of what Due answered")
		if !slices.Equal(second, wantSecond) {
			t.Errorf("%d of a time: %d shares another answer's memory", n, second)
		}
		b.due(math.MaxUint64)
		expectNothing(t, b.wheel)
	}
}

// P12.1: wheels side by side know nothing of each other.
func TestTwoWheels(t *testing.T) {
	for seed := range uint64(20) {
		d := newDice(300 + seed)
		two := [2]*both{newBoth(t), newBoth(t)}
		draw := drawing{ids: 1 + d.IntN(30), times: spread(d)}
		for range 300 {
			k := d.IntN(2)
			draw.call(two[k], d)
			two[1-k].check("a call of the other wheel")
		}
		two[0].onceInTime()
		two[1].onceInTime()
	}
}

// P12.1: no call of a nil wheel does anything.
func TestNil(t *testing.T) {
	var w *Wheel
	for _, id := range edgeIDs() {
		for _, time := range edgeTimes() {
			w.Add(id, time)
			expectNothing(t, w)
			expectDrop(t, w, id, false)
			expectDue(t, w, time)
		}
	}
	expectNothing(t, w)
}

// everyRow calls f with each row of so many numbers below a bound.
func everyRow(length, bound int, f func([]int)) {
	row := make([]int, length)
	for {
		f(row)
		i := 0
		for i < length && row[i] == bound-1 {
			row[i] = 0
			i++
		}
		if i == length {
			return
		}
		row[i]++
	}
}

// P12.1, P12.2: every row of few calls: adds of few ids at few times, drops of each of them, and Due at each time.
func TestEveryRowOfCalls(t *testing.T) {
	for _, c := range []struct {
		ids   int
		times []uint64
		calls int
	}{
		{1, []uint64{0, 64}, 6},
		{2, []uint64{3, 67}, 5},
		{2, []uint64{0, 1, 64}, 4},
		{3, []uint64{63, math.MaxUint64}, 4},
		{3, []uint64{5, 69, 133}, 4},
	} {
		adds := c.ids * len(c.times)
		everyRow(c.calls, adds+c.ids+len(c.times), func(row []int) {
			b := newBoth(t)
			for _, k := range row {
				switch {
				case k < adds:
					b.add(k%c.ids, c.times[k/c.ids])
				case k < adds+c.ids:
					b.drop(k - adds)
				default:
					b.due(c.times[k-adds-c.ids])
				}
			}
			b.onceInTime()
		})
	}
}

// P12.1, P12.2: rows of calls, drawn, out of few ids and of many, of few times and of many, near each other and far apart.
func TestDrawnRows(t *testing.T) {
	for seed := range uint64(600) {
		d := newDice(1000 + seed)
		draw := drawing{ids: one(d, 1, 2, 3, 8, 30, 200, 1000), times: spread(d)}
		b := newBoth(t)
		for i := range 400 {
			if i%50 == 0 {
				draw.adds = one(d, 20, 50, 80, 95)
			}
			draw.call(b, d)
		}
		b.onceInTime()
	}
}

// P12.1, P12.2: time goes on tick by tick, as a node's does, and what is added is due a while behind it.
func TestTicks(t *testing.T) {
	for seed := range uint64(40) {
		d := newDice(5000 + seed)
		b := newBoth(t)
		now := one(d, 0, 60, math.MaxUint32-50, math.MaxInt64-50, uint64(math.MaxUint64)-3000)
		for range 300 {
			for range d.IntN(4) {
				b.add(d.IntN(100), now+d.Uint64N(one(d, uint64(1), 3, 64, 200)))
			}
			if d.IntN(3) == 0 {
				b.drop(d.IntN(100))
			}
			b.due(now)
			now += d.Uint64N(one(d, uint64(1), 2, 2, 10))
		}
		b.due(now + 200)
		expectNothing(t, b.wheel)
		b.onceInTime()
	}
}

// P12.1, P12.2: many more than there are buckets, held against the model call by call only where it is quick: told all, each once, in order.
func TestVeryMany(t *testing.T) {
	const n = 100000
	d := newDice(6)
	for _, bound := range []uint64{1, 64, 5000, math.MaxUint64} {
		w, due := New(), make([]uint64, n)
		for range 2 {
			for _, id := range d.Perm(n) {
				due[id] = d.Uint64N(bound)
				w.Add(id, due[id])
			}
		}
		half := w.Due(bound / 2)
		rest := w.Due(bound)
		all := append(slices.Clone(half), rest...)
		if len(all) != n || w.Len() != 0 {
			t.Fatalf("below %d: %d are told, %d are left", bound, len(all), w.Len())
		}
		for i, id := range all {
			if (due[id] <= bound/2) != (i < len(half)) {
				t.Fatalf("below %d: %d of time %d is told in the wrong half", bound, id, due[id])
			}
			if i > 0 && (due[all[i-1]] > due[id] || due[all[i-1]] == due[id] && all[i-1] >= id) {
				t.Fatalf("below %d: %d of time %d stands behind %d of time %d", bound, id, due[id], all[i-1], due[all[i-1]])
			}
		}
	}
}

// spread draws a way to draw times.
func spread(d dice) func() uint64 {
	base := one(d, 0, 1, 60, 1<<32-5, 1<<63-100, uint64(math.MaxUint64)-5000)
	width := one(d, uint64(1), 2, 5, 64, 130, 1000, 5000)
	turn := one(d, uint64(1), 1, 64)
	switch d.IntN(8) {
	case 0:
		return d.Uint64
	case 1:
		return func() uint64 { return one(d, edgeTimes()...) }
	case 2:
		return func() uint64 { return d.Uint64() >> d.IntN(64) }
	}
	return func() uint64 { return base + d.Uint64N(width)/turn*turn }
}

// drawing is what calls are drawn of: so many ids, times, and so many adds of a hundred calls.
type drawing struct {
	ids   int
	times func() uint64
	adds  int
}

func (x drawing) call(b *both, d dice) {
	b.t.Helper()
	id := d.IntN(x.ids)
	if d.IntN(15) == 0 {
		id = one(d, edgeIDs()...)
	}
	switch k := d.IntN(100); {
	case k < max(x.adds, 20):
		b.add(id, x.times())
	case k%2 == 0:
		b.drop(id)
	default:
		now := x.times()
		if next, some := b.wheel.Next(); some && d.IntN(3) > 0 {
			now = one(d, next, next, max(next, 1)-1)
		}
		b.due(now)
	}
}
