package slots

import (
	"math"
	"slices"
	"strconv"
	"strings"
	"testing"
	"unsafe"

	"tattler/api"
)

func expectSet(t *testing.T, x *Table, key string, v int, want api.Errno) {
	t.Helper()
	if e := x.Set(key, v); e != want {
		t.Errorf("Set(%s, %d): %d, not %d", short(key), v, e, want)
	}
}

func expectGet(t *testing.T, x *Table, key string, want int, wantThere bool) {
	t.Helper()
	if v, there := x.Get(key); v != want || there != wantThere {
		t.Errorf("Get(%s): %d, %v, not %d, %v", short(key), v, there, want, wantThere)
	}
}

func expectDrop(t *testing.T, x *Table, key string, want bool) {
	t.Helper()
	if there := x.Drop(key); there != want {
		t.Errorf("Drop(%s): %v, not %v", short(key), there, want)
	}
}

// expectSlots lays where keys are against slots (-1: it isn't there), and Len and Keys too.
func expectSlots(t *testing.T, x *Table, keys []string, slots []int) {
	t.Helper()
	at := map[int]string{}
	for i, key := range keys {
		if got := x.Slot(key); got != slots[i] {
			t.Errorf("Slot(%s): %d, not %d", short(key), got, slots[i])
		}
		if slots[i] >= 0 {
			at[slots[i]] = key
		}
	}
	var want []string
	for slot := range 2048 {
		if key, there := at[slot]; there {
			want = append(want, key)
		}
	}
	if got := x.Keys(); !slices.Equal(got, want) {
		t.Errorf("Keys: %s, not %s", short(got), short(want))
	}
	if x.Len() != len(want) {
		t.Errorf("Len: %d, not %d", x.Len(), len(want))
	}
}

func newTable(t *testing.T, n int) *Table {
	t.Helper()
	x, e := New(n)
	if e != api.OK || x == nil {
		t.Fatalf("New(%d): %v, %d", n, x, e)
	}
	return x
}

// P10.1, P10.2: the chapter's examples. The homes of a and b among two slots are 0 and 1.
func TestExamples(t *testing.T) {
	x := newTable(t, 1)
	ab := []string{"a", "b"}
	expectSlots(t, x, ab, []int{-1, -1})
	expectSet(t, x, "a", 5, api.OK)
	expectSlots(t, x, ab, []int{0, -1})
	expectSet(t, x, "b", 6, api.ErrFull)
	expectSlots(t, x, ab, []int{0, -1})
	expectGet(t, x, "a", 5, true)
	expectGet(t, x, "b", 0, false)
	expectSet(t, x, "a", 7, api.OK)
	expectGet(t, x, "a", 7, true)
	expectDrop(t, x, "a", true)
	expectSlots(t, x, ab, []int{-1, -1})
	expectSet(t, x, "b", 6, api.OK)
	expectSlots(t, x, ab, []int{-1, 1})
	expectGet(t, x, "a", 0, false)
	expectGet(t, x, "b", 6, true)
}

// P10.1: a table is for 1 to MaxSlots keys.
func TestNew(t *testing.T) {
	for _, n := range []int{math.MinInt, math.MinInt + 1, math.MinInt32, -1024, -2, -1, 0, api.MaxSlots + 1, 2 * api.MaxSlots, math.MaxInt32, 1 << 62, math.MaxInt - 1, math.MaxInt} {
		if x, e := New(n); x != nil || e != api.ErrArg {
			t.Errorf("New(%d): %v, %d", n, x, e)
		}
	}
	for _, n := range []int{1, 2, 3, api.MaxSlots - 1, api.MaxSlots} {
		x := newTable(t, n)
		expectSlots(t, x, []string{"", "a"}, []int{-1, -1})
		expectGet(t, x, "", 0, false)
		expectGet(t, x, "a", 0, false)
		expectDrop(t, x, "", false)
		expectDrop(t, x, "a", false)
		for i, key := range numbered(n) {
			expectSet(t, x, key, i, api.OK)
		}
		expectSet(t, x, "one more", 1, api.ErrFull)
	}
}

// P10.1: homes that were reckoned apart from this program, by tables for 1, 2, 3, 4, 5, 512, 513 and 1024 keys.
func TestHomes(t *testing.T) {
	for _, c := range []struct {
		key   string
		slots [6]int // of 2, 4, 8, 16, 1024 and 2048
	}{
		{"", [6]int{1, 3, 7, 15, 431, 1455}},
		{"a", [6]int{0, 2, 2, 10, 714, 714}},
		{"b", [6]int{1, 3, 7, 15, 111, 111}},
		{"d", [6]int{1, 3, 3, 3, 851, 851}},
		{"g", [6]int{1, 1, 5, 13, 893, 1917}},
		{"h", [6]int{0, 2, 2, 2, 82, 1106}},
		{"ab", [6]int{0, 0, 4, 12, 204, 1228}},
		{"\x00", [6]int{1, 3, 7, 7, 759, 759}},
		{"\x00\x00", [6]int{1, 3, 7, 7, 23, 1047}},
		{"\xff", [6]int{1, 3, 7, 7, 87, 1111}},
		{"\xc3\xa9", [6]int{0, 0, 0, 0, 896, 896}},
		{"tattler:key:1", [6]int{1, 3, 7, 15, 1007, 1007}},
		{strings.Repeat("a", api.MaxKey), [6]int{0, 2, 2, 2, 386, 386}},
		{strings.Repeat("a", 100000), [6]int{1, 3, 7, 15, 735, 1759}},
		{everyByte(), [6]int{1, 3, 7, 7, 119, 1143}},
		{"k50", [6]int{1, 3, 7, 15, 1023, 1023}},
		{"k1781", [6]int{1, 3, 7, 15, 1023, 2047}},
	} {
		for n, i := range map[int]int{1: 0, 2: 1, 3: 2, 4: 2, 5: 3, 512: 4, 513: 5, 1024: 5} {
			x := newTable(t, n)
			expectSet(t, x, c.key, n, api.OK)
			expectSlots(t, x, []string{c.key}, []int{c.slots[i]})
			expectGet(t, x, c.key, n, true)
		}
	}
}

// everyByte has each of the 256 bytes once, so it is no valid UTF-8.
func everyByte() string {
	b := make([]byte, 256)
	for i := range b {
		b[i] = byte(i)
	}
	return string(b)
}

// P10.1: how many slots there are, by the slots of keys that are alone: each slot is one's.
func TestNumberOfSlots(t *testing.T) {
	for n, m := range map[int]int{1: 2, 2: 4, 3: 8, 4: 8, 5: 16, 512: 1024, 513: 2048, 1024: 2048} {
		x := newTable(t, n)
		seen := map[int]struct{}{}
		for i := range 40000 {
			key := "n" + strconv.Itoa(i)
			expectSet(t, x, key, i, api.OK)
			at := x.Slot(key)
			if want := slowHome(key, m); at != want {
				t.Fatalf("for %d keys: Slot(%s): %d, not %d", n, short(key), at, want)
			}
			seen[at] = struct{}{}
			expectDrop(t, x, key, true)
		}
		if len(seen) != m {
			t.Errorf("for %d keys: %d slots, not %d", n, len(seen), m)
		}
	}
}

// P10.1: the least power of two that is at least 2 n, for every n.
func TestEverySize(t *testing.T) {
	keys := numbered(40)
	for n := 1; n <= api.MaxSlots; n++ {
		m := 2
		for m < 2*n {
			m += m
		}
		x := newTable(t, n)
		for _, key := range keys {
			expectSet(t, x, key, n, api.OK)
			expectSlots(t, x, []string{key}, []int{slowHome(key, m)})
			expectDrop(t, x, key, true)
		}
	}
}

// P10.1, P10.2, P10.3: in a full table a key that is there is set anew, another one is refused; one more is added once one is dropped.
func TestFull(t *testing.T) {
	for _, n := range []int{1, 2, 3, 4, 5, 7, 8, 9, 512, 513, 1024} {
		keys := numbered(n + 3)
		b := newBoth(t, n, keys...)
		fill(b, keys[:n])
		for round := range 3 {
			other, gone := keys[n+round], keys[(round*5)%n]
			if e := b.set(other, 1); e != api.ErrFull {
				t.Fatalf("for %d keys: one more: %d", n, e)
			}
			if e := b.set(keys[n-1], -round); e != api.OK {
				t.Fatalf("for %d keys: a key anew: %d", n, e)
			}
			b.drop(gone)
			if e := b.set(other, 2); e != api.OK {
				t.Fatalf("for %d keys: one more behind a drop: %d", n, e)
			}
			if e := b.set(gone, 3); e != api.ErrFull {
				t.Fatalf("for %d keys: the dropped one: %d", n, e)
			}
			b.drop(other)
			b.set(gone, 4)
		}
	}
}

func fill(b *both, keys []string) {
	b.t.Helper()
	for i, key := range keys {
		b.set(key, i)
	}
}

// oddKeys are keys of every kind; among them such as differ little.
func oddKeys() []string {
	l := []string{"", " ", "\x00", "\x00\x00", "a", "a\x00", "\x00a", "aa", "A", "\r\n", "\n", "a b", "é", "e\u0301", "\xc3", "\xa9\xc3", "\xff\xfe", "日本", everyByte(), everyByte() + everyByte()}
	for _, n := range []int{249, 250, 251, 1024, 2049} {
		l = append(l, strings.Repeat("a", n), strings.Repeat("a", n-1)+"b", "b"+strings.Repeat("a", n-1))
	}
	for i := range 256 {
		l = append(l, "one byte: "+string([]byte{byte(i)}))
	}
	return l
}

// P10.1, P10.2, P10.3: the empty key, long ones, and keys of any bytes.
func TestOddKeys(t *testing.T) {
	keys := oddKeys()
	for _, n := range []int{1, 4, len(keys) / 2, len(keys), api.MaxSlots} {
		b := newBoth(t, n, keys...)
		fill(b, keys)
		for i, key := range keys {
			if i%7 == 0 || len(key) < 3 {
				b.drop(key)
				b.set(key, -i)
			}
		}
		for _, key := range keys {
			if len(key) < 300 {
				b.drop(key)
			}
		}
	}
}

// P10.1, P10.2: the empty key is one as any other, and none that is there by itself.
func TestEmptyKey(t *testing.T) {
	x := newTable(t, 2)
	expectGet(t, x, "", 0, false)
	expectDrop(t, x, "", false)
	expectSet(t, x, "", 0, api.OK)
	expectGet(t, x, "", 0, true)
	expectSlots(t, x, []string{"", "b"}, []int{3, -1})
	expectSet(t, x, "b", 1, api.OK)
	expectSlots(t, x, []string{"", "b"}, []int{3, 0})
	expectSet(t, x, "c", 2, api.ErrFull)
	expectDrop(t, x, "", true)
	expectSlots(t, x, []string{"", "b"}, []int{-1, 3})
	expectDrop(t, x, "", false)
	expectGet(t, x, "", 0, false)
	expectGet(t, x, "b", 1, true)
}

// P10.1, P10.2: whatever number a key has.
func TestNumbers(t *testing.T) {
	keys := numbered(3)
	b := newBoth(t, 2, keys...)
	numbers := []int{0, -1, 1, math.MinInt, math.MaxInt, math.MinInt32, math.MaxInt32, math.MaxUint32, 0}
	for _, v := range numbers {
		for _, w := range numbers {
			b.set(keys[0], v)
			b.set(keys[1], w)
			b.set(keys[2], w)
			expectGet(t, b.table, keys[0], v, true)
			expectGet(t, b.table, keys[1], w, true)
			b.set(keys[0], w)
			expectGet(t, b.table, keys[0], w, true)
		}
		b.drop(keys[0])
		expectGet(t, b.table, keys[0], 0, false)
	}
}

// P10.1, P10.3: keys by their homes, and where each one is: all of them, and behind the drop of one. All is reckoned by hand.
func TestRowsOfHomes(t *testing.T) {
	for _, c := range []struct {
		n            int
		homes, slots []int
		drop         int
		left         []int
	}{
		{1, []int{0}, []int{0}, 0, []int{-1}},
		{1, []int{1}, []int{1}, 0, []int{-1}},
		// Two keys, of one home or two.
		{2, []int{1, 1}, []int{1, 2}, 0, []int{-1, 1}},
		{2, []int{1, 1}, []int{1, 2}, 1, []int{1, -1}},
		{2, []int{1, 2}, []int{1, 2}, 0, []int{-1, 2}},
		{2, []int{3, 3}, []int{3, 0}, 0, []int{-1, 3}},
		{2, []int{3, 3}, []int{3, 0}, 1, []int{3, -1}},
		{2, []int{3, 0}, []int{3, 0}, 0, []int{-1, 0}},
		{2, []int{0, 3}, []int{0, 3}, 1, []int{0, -1}},
		// One home: all behind the hole go up by one.
		{4, []int{3, 3, 3, 3}, []int{3, 4, 5, 6}, 0, []int{-1, 3, 4, 5}},
		{4, []int{3, 3, 3, 3}, []int{3, 4, 5, 6}, 1, []int{3, -1, 4, 5}},
		{4, []int{3, 3, 3, 3}, []int{3, 4, 5, 6}, 2, []int{3, 4, -1, 5}},
		{4, []int{3, 3, 3, 3}, []int{3, 4, 5, 6}, 3, []int{3, 4, 5, -1}},
		// The same, from the last slot on to the first ones.
		{4, []int{7, 7, 7, 7}, []int{7, 0, 1, 2}, 0, []int{-1, 7, 0, 1}},
		{4, []int{7, 7, 7, 7}, []int{7, 0, 1, 2}, 1, []int{7, -1, 0, 1}},
		{4, []int{7, 7, 7, 7}, []int{7, 0, 1, 2}, 2, []int{7, 0, -1, 1}},
		{4, []int{7, 7, 7, 7}, []int{7, 0, 1, 2}, 3, []int{7, 0, 1, -1}},
		{4, []int{6, 6, 6, 6}, []int{6, 7, 0, 1}, 0, []int{-1, 6, 7, 0}},
		{4, []int{6, 6, 6, 6}, []int{6, 7, 0, 1}, 1, []int{6, -1, 7, 0}},
		{4, []int{6, 6, 6, 6}, []int{6, 7, 0, 1}, 2, []int{6, 7, -1, 0}},
		// Homes behind the hole and up to the own slot: they stay.
		{4, []int{2, 3, 4, 5}, []int{2, 3, 4, 5}, 0, []int{-1, 3, 4, 5}},
		{4, []int{2, 3, 3, 4}, []int{2, 3, 4, 5}, 0, []int{-1, 3, 4, 5}},
		{4, []int{7, 0, 0, 1}, []int{7, 0, 1, 2}, 0, []int{-1, 0, 1, 2}},
		{4, []int{6, 7, 7, 0}, []int{6, 7, 0, 1}, 0, []int{-1, 7, 0, 1}},
		{4, []int{6, 7, 7, 7}, []int{6, 7, 0, 1}, 0, []int{-1, 7, 0, 1}},
		// Some stay, others are put into the hole over them.
		{4, []int{2, 3, 2, 4}, []int{2, 3, 4, 5}, 0, []int{-1, 3, 2, 4}},
		{4, []int{2, 3, 3, 2}, []int{2, 3, 4, 5}, 0, []int{-1, 3, 4, 2}},
		{4, []int{2, 2, 3, 5}, []int{2, 3, 4, 5}, 0, []int{-1, 2, 3, 5}},
		{4, []int{7, 0, 7, 1}, []int{7, 0, 1, 2}, 0, []int{-1, 0, 7, 1}},
		{4, []int{6, 7, 7, 6}, []int{6, 7, 0, 1}, 0, []int{-1, 7, 0, 6}},
		{4, []int{6, 7, 7, 6}, []int{6, 7, 0, 1}, 1, []int{6, -1, 7, 0}},
		{4, []int{6, 7, 7, 6}, []int{6, 7, 0, 1}, 2, []int{6, 7, -1, 0}},
		{4, []int{7, 7, 1, 0}, []int{7, 0, 1, 2}, 1, []int{7, -1, 1, 0}},
		{4, []int{5, 5, 7, 7}, []int{5, 6, 7, 0}, 0, []int{-1, 5, 7, 0}},
		{4, []int{5, 5, 7, 7}, []int{5, 6, 7, 0}, 1, []int{5, -1, 7, 0}},
		// Behind an empty slot nothing is gone over.
		{4, []int{3, 3, 6, 6}, []int{3, 4, 6, 7}, 0, []int{-1, 3, 6, 7}},
		{4, []int{7, 7, 2, 2}, []int{7, 0, 2, 3}, 0, []int{-1, 7, 2, 3}},
		// Long rows.
		{8, []int{14, 14, 15, 14, 0, 15, 2, 1}, []int{14, 15, 0, 1, 2, 3, 4, 5}, 0, []int{-1, 14, 15, 0, 1, 2, 3, 4}},
		{8, []int{14, 15, 0, 14, 2, 1, 14, 5}, []int{14, 15, 0, 1, 2, 3, 4, 5}, 0, []int{-1, 15, 0, 14, 2, 1, 3, 5}},
		{5, []int{15, 14, 13, 14, 13}, []int{15, 14, 13, 0, 1}, 2, []int{15, 14, -1, 0, 13}},
	} {
		keys := newHomed(slowSlots(c.n)).row(c.homes...)
		b := newBoth(t, c.n, keys...)
		for i, key := range keys {
			b.set(key, i)
		}
		expectSlots(t, b.table, keys, c.slots)
		b.drop(keys[c.drop])
		expectSlots(t, b.table, keys, c.left)
		if t.Failed() {
			t.Fatalf("for %d keys of the homes %d, without number %d", c.n, c.homes, c.drop)
		}
	}
}

// everyRow calls f with each row of so many numbers below a bound.
func everyRow(length, bound int, f func([]int)) {
	row := make([]int, length)
	for {
		f(row)
		i := 0
		for i < length && row[i] == bound-1 {
			row[i] = 0
			i++
		}
		if i == length {
			return
		}
		row[i]++
	}
}

// P10.1, P10.2, P10.3: keys of all homes; each one is dropped and set anew, then all are dropped.
func TestEveryHome(t *testing.T) {
	for n := 1; n <= 4; n++ {
		h := newHomed(slowSlots(n))
		everyRow(n, h.slots, func(homes []int) {
			keys := h.row(homes...)
			for gone := range keys {
				b := newBoth(t, n, keys...)
				fill(b, keys)
				b.drop(keys[gone])
				b.set(keys[gone], -1)
				for i := range keys {
					b.drop(keys[(gone+i*3)%n])
					b.drop(keys[i])
				}
			}
		})
	}
}

// P10.1, P10.2, P10.3: every row of few calls of three keys of any homes.
func TestEveryRowOfCalls(t *testing.T) {
	for _, c := range []struct{ n, calls int }{{1, 4}, {2, 4}} {
		h := newHomed(slowSlots(c.n))
		everyRow(3, h.slots, func(homes []int) {
			keys := h.row(homes...)
			everyRow(c.calls, 6, func(calls []int) { call(newBoth(t, c.n, keys...), keys, calls) })
		})
	}
	for _, homes := range [][]int{{3, 3, 3}, {3, 0, 3}, {7, 7, 0}} {
		keys := newHomed(8).row(homes...)
		everyRow(6, 6, func(calls []int) { call(newBoth(t, 3, keys...), keys, calls) })
	}
}

// call carries calls out: a set below len(keys), a drop from there on.
func call(b *both, keys []string, calls []int) {
	b.t.Helper()
	for i, c := range calls {
		if c < len(keys) {
			b.set(keys[c], i+1)
		} else {
			b.drop(keys[c-len(keys)])
		}
	}
}

// P10.1, P10.2: a key that is dropped twice, that was never there, that is set anew.
func TestDrops(t *testing.T) {
	for _, n := range []int{1, 2, 5, 1024} {
		b := newBoth(t, n, "a", "b", "never", "")
		expectDrop(t, b.table, "a", false)
		b.set("a", 5)
		for _, key := range []string{"never", "", "b", "A", "aa"} {
			if b.drop(key) {
				t.Errorf("for %d keys: %q was there", n, key)
			}
		}
		if !b.drop("a") || b.drop("a") || b.drop("a") {
			t.Errorf("for %d keys: a is not dropped once", n)
		}
		expectGet(t, b.table, "a", 0, false)
		b.set("a", 6)
		expectGet(t, b.table, "a", 6, true)
		if !b.drop("a") {
			t.Errorf("for %d keys: a, set anew, isn't there", n)
		}
		b.set("b", 0)
		expectGet(t, b.table, "a", 0, false)
	}
}

// P10.1, P10.2, P10.3: tables all of whose keys were dropped, in one order or another, are as new.
func TestAllDropped(t *testing.T) {
	for _, n := range []int{1, 2, 3, 4, 5, 64, 512, 513} {
		d := newDice(uint64(n))
		keys := numbered(n + 1)
		b := newBoth(t, n, keys...)
		for range 3 {
			fill(b, keys[:n])
			for _, i := range d.Perm(n) {
				b.drop(keys[i])
			}
			if b.table.Len() != 0 || len(b.table.Keys()) != 0 {
				t.Fatalf("for %d keys: %d are left", n, b.table.Len())
			}
			b.set(keys[n], 1)
			expectSlots(t, b.table, keys[n:], []int{slowHome(keys[n], slowSlots(n))})
			b.drop(keys[n])
		}
	}
}

// P10.1: what Keys answered stays as it is when the table changes, and the table when what Keys answered is changed, its spare room too.
func TestKeysStandApart(t *testing.T) {
	for _, n := range []int{1, 2, 3, 8, 100} {
		keys := numbered(n)
		b := newBoth(t, n, keys...)
		none := b.table.Keys()
		if len(none) != 0 {
			t.Errorf("for %d keys: %q, without keys", n, none)
		}
		fill(b, keys)
		all, again := b.table.Keys(), b.table.Keys()
		want := slices.Clone(all)
		b.set(keys[0], 100)
		b.drop(keys[n-1])
		b.set("another", 1)
		if len(none) != 0 || !slices.Equal(all, want) || !slices.Equal(again, want) {
			t.Errorf("for %d keys: %s and %s, not %s", n, short(all), short(again), short(want))
		}
		room := all[:cap(all)]
		for i := range room {
			room[i] = "changed"
		}
		_ = append(none, "changed")
		b.check("a change of Keys")
		if !slices.Equal(again, want) {
			t.Errorf("for %d keys: %s shares another answer's memory", n, short(again))
		}
	}
}

// P10.1: the memory of a key that is handed in is not kept: what stands there later is no matter.
func TestKeysAreNotKept(t *testing.T) {
	b := newBoth(t, 4, "first", "other", "third")
	memory := []byte("first")
	b.set(unsafe.String(&memory[0], len(memory)), 1)
	copy(memory, "other")
	// The model would keep that memory: it is set anew.
	b.model = newModel(4)
	b.model.set("first", 1)
	b.check("a change of the key's memory")
	b.set("third", 3)
	b.drop("first")
	b.check("a drop")
}

// P10.1: a key that Keys answers is new memory: no argument's, and no other answer's.
func TestKeysAreNewMemory(t *testing.T) {
	x := newTable(t, 4)
	key := strings.Repeat("k", 20)
	expectSet(t, x, key, 1, api.OK)
	first, second := x.Keys(), x.Keys()
	a, b, c := unsafe.StringData(key), unsafe.StringData(first[0]), unsafe.StringData(second[0])
	if a == b || a == c || b == c {
		t.Errorf("%p, %p and %p", a, b, c)
	}
	expectSet(t, x, first[0], 2, api.OK)
	if d := unsafe.StringData(x.Keys()[0]); d == a || d == b || d == c {
		t.Errorf("%p among %p, %p and %p", d, a, b, c)
	}
}

// P10.1, P10.2: tables side by side know nothing of each other.
func TestTwoTables(t *testing.T) {
	for _, sizes := range [][2]int{{1, 1}, {1, 4}, {4, 4}, {20, 30}} {
		d := newDice(uint64(sizes[1]))
		keys := numbered(sizes[1] + 2)
		two := [2]*both{newBoth(t, sizes[0], keys...), newBoth(t, sizes[1], keys...)}
		for i := range 1000 {
			k := d.IntN(2)
			if d.IntN(3) == 0 {
				two[k].drop(one(d, keys...))
			} else {
				two[k].set(one(d, keys...), i)
			}
			two[1-k].check("a call of the other table")
		}
	}
}

// P10.1: no call of a nil table does anything.
func TestNil(t *testing.T) {
	var x *Table
	for _, key := range []string{"", "a", strings.Repeat("a", 100000), "\xff"} {
		expectSet(t, x, key, 0, api.ErrArg)
		expectSet(t, x, key, 5, api.ErrArg)
		expectGet(t, x, key, 0, false)
		expectDrop(t, x, key, false)
		expectSlots(t, x, []string{key}, []int{-1})
	}
}

// P10.1, P10.2, P10.3: long rows of calls, drawn, of tables of many sizes, out of few keys and of many.
func TestDrawnRows(t *testing.T) {
	sizes := []int{1, 2, 3, 4, 5, 6, 7, 8, 9, 15, 16, 17, 31, 32, 33, 64, 100}
	for _, n := range sizes {
		for i, keys := range []int{n, n + 1, n + n/2 + 2, 3*n + 5} {
			drawnRow(t, newDice(uint64(n*10+i)), n, numbered(keys), 1500)
		}
	}
	for _, n := range []int{511, 512, 513, 1000, 1024} {
		drawnRow(t, newDice(uint64(n)), n, numbered(n+n/20+1), 700)
	}
	for seed := range uint64(300) {
		d := newDice(1000 + seed)
		n := 1 + d.IntN(40)
		drawnRow(t, d, n, numbered(1+d.IntN(2*n+2)), 200)
	}
}

// P10.1, P10.2, P10.3: the same, of keys whose homes lie close together, on both sides of the last slot, too.
func TestDrawnRowsOfNearHomes(t *testing.T) {
	for seed := range uint64(300) {
		d := newDice(5000 + seed)
		n := 2 + d.IntN(30)
		h := newHomed(slowSlots(n))
		first, wide := h.slots-1-d.IntN(3), 1+d.IntN(4)
		var homes []int
		for range n + 2 {
			homes = append(homes, (first+d.IntN(wide))%h.slots)
		}
		drawnRow(t, d, n, h.row(homes...), 300)
	}
}

// drawnRow begins with an empty table, or a half or wholly full one, and grows or shrinks it by turns.
func drawnRow(t *testing.T, d dice, n int, keys []string, calls int) {
	t.Helper()
	b := newBoth(t, n, keys...)
	start := min(n, len(keys))
	fill(b, keys[:one(d, 0, start/2, start)])
	sets := 50
	for i := range calls {
		if i%50 == 0 {
			sets = one(d, 10, 50, 90)
		}
		key := one(d, keys...)
		if d.IntN(100) < sets {
			b.set(key, one(d, i, -i, 0, d.Int(), math.MinInt, math.MaxInt))
		} else {
			b.drop(key)
		}
	}
}
