package store

import (
	"fmt"
	"math"
	"slices"
	"strings"
	"testing"
	"unsafe"

	"tattler/api"
	"tattler/mix"
	"tattler/rec"
)

func expectPut(t *testing.T, b *both, r api.Rec, now uint64, fresh bool, want api.Errno) {
	t.Helper()
	if f, e := b.put(r, now); f != fresh || e != want {
		t.Errorf("Put(%s, %d): %v, %d, not %v, %d", tell(r), now, f, e, fresh, want)
	}
}

// expectKeys lays the keys that are there, in no order, against those reckoned by hand.
func expectKeys(t *testing.T, b *both, want ...string) {
	t.Helper()
	var got []string
	for _, key := range b.keys {
		if _, there := b.store.Peek(key); there {
			got = append(got, key)
		}
	}
	slices.Sort(got)
	slices.Sort(want)
	if !slices.Equal(got, want) || b.store.Len() != len(want) {
		t.Errorf("there are %q, %d in all, not %q", got, b.store.Len(), want)
	}
}

func expectFloor(t *testing.T, b *both, key string, want api.Stamp) {
	t.Helper()
	if f := b.store.Floor(mix.Range(key)); f != want {
		t.Errorf("the floor of %q's range is %v, not %v", key, f, want)
	}
}

func expectEvicted(t *testing.T, b *both, want int) {
	t.Helper()
	if n := b.store.Evicted(); n != want {
		t.Errorf("Evicted: %d, not %d", n, want)
	}
}

// P13.1: the chapter's examples.
func TestExamples(t *testing.T) {
	b := newBoth(t, 1, 100, 10, "a", "b")
	expectPut(t, b, value("a", 5, ""), 5, true, api.OK)
	expectPut(t, b, value("b", 4, ""), 5, true, api.OK)
	expectKeys(t, b, "b")
	expectEvicted(t, b, 1)
	expectFloor(t, b, "a", api.Stamp{Phys: 5})
	expectPut(t, b, value("a", 5, ""), 5, false, api.ErrOld)
	if n := b.purge(13); n != 0 {
		t.Errorf("Purge(13): %d", n)
	}
	if n := b.purge(14); n != 1 {
		t.Errorf("Purge(14): %d", n)
	}
	expectKeys(t, b)
}

// P13.1: New takes what is within the bounds, and nothing else.
func TestNew(t *testing.T) {
	bounds := func(most int) []int { return []int{math.MinInt, -1, 0, 1, most, most + 1, math.MaxInt} }
	may := func(n, most int) bool { return n >= 1 && n <= most }
	for _, slots := range bounds(1024) {
		for _, bytes := range bounds(1 << 20) {
			for _, keep := range bounds(1000) {
				want := api.ErrArg
				if may(slots, 1024) && may(bytes, 1<<20) && may(keep, 1000) {
					want = api.OK
				}
				s, e := New(slots, bytes, keep)
				if e != want || (s != nil) != (want == api.OK) {
					t.Errorf("New(%d, %d, %d): %v, %d, not %d", slots, bytes, keep, s != nil, e, want)
				}
			}
		}
	}
}

// P13.1: a new store has nothing.
func TestWithoutRecords(t *testing.T) {
	b := newBoth(t, 3, 100, 10, "", "a", "b")
	expectKeys(t, b)
	for _, key := range []string{"", "a", "a b", strings.Repeat("x", 300)} {
		if r, there := b.get(key); there || r != (api.Rec{}) {
			t.Errorf("Get(%q): %s, %v", key, tell(r), there)
		}
	}
	for _, now := range []uint64{0, 1, 10, math.MaxUint64} {
		if n := b.purge(now); n != 0 {
			t.Errorf("Purge(%d): %d", now, n)
		}
	}
}

// P13.1: a record that may not be is refused, whatever is there, old or not, and nothing changes.
func TestMayNotBe(t *testing.T) {
	for _, now := range []uint64{0, 50, 59, 60, 1 << 47, math.MaxUint64} {
		for _, r := range wrong("a") {
			for _, there := range []bool{false, true} {
				b := newBoth(t, 2, 2000, 10, "a", "b", "")
				if there {
					b.put(value("a", 7, "x"), 7)
					b.put(value("b", 8, "x"), 8)
				}
				expectPut(t, b, r, now, false, api.ErrArg)
			}
		}
	}
	b := newBoth(t, 1, 1, 10, "a", "b")
	expectPut(t, b, value("", 0, "12"), 50, false, api.ErrArg)
	expectPut(t, b, value("a b", 0, "12"), 50, false, api.ErrArg)
}

// P13.1: a record is old from its Phys and Keep on, not ahead of it.
func TestOld(t *testing.T) {
	for _, keep := range []uint64{1, 2, 10, 999, 1000} {
		for _, phys := range []uint64{0, 1, 2, 1000, 1 << 32, 1<<48 - 1001, 1<<48 - 2, 1<<48 - 1} {
			r := value("a", phys, "x")
			r.Stamp.Logical = 1
			for _, now := range []uint64{0, 1, phys, phys + keep - 1} {
				b := newBoth(t, 1, 10, int(keep), "a")
				expectPut(t, b, r, min(now, phys+keep-1), true, api.OK)
				if n := b.store.Purge(phys + keep - 1); n != 0 {
					t.Errorf("Keep %d: what is of %d is purged at %d", keep, phys, phys+keep-1)
				}
				if n := b.store.Purge(phys + keep); n != 1 || b.store.Len() != 0 {
					t.Errorf("Keep %d: what is of %d isn't purged at %d", keep, phys, phys+keep)
				}
			}
			for _, now := range []uint64{phys + keep, phys + keep + 1, 1 << 48, 1 << 63, math.MaxUint64} {
				b := newBoth(t, 1, 10, int(keep), "a")
				expectPut(t, b, r, max(now, phys+keep), false, api.ErrOld)
				expectKeys(t, b)
			}
		}
	}
}

// P13.1: what is there, and old, is there till it is purged, and what comes of its key is refused as old even if it is that.
func TestOldAndThere(t *testing.T) {
	b := newBoth(t, 3, 100, 10, "a", "b")
	expectPut(t, b, value("a", 5, "x"), 5, true, api.OK)
	expectPut(t, b, value("a", 5, "x"), 14, false, api.OK)
	expectPut(t, b, value("a", 5, "x"), 15, false, api.ErrOld)
	expectPut(t, b, value("a", 5, "y"), 15, false, api.ErrOld)
	expectKeys(t, b, "a")
	if r, there := b.get("a"); !there || r != value("a", 5, "x") {
		t.Errorf("Get: %s, %v", tell(r), there)
	}
	expectPut(t, b, value("a", 6, "y"), 15, true, api.OK)
}

// ladder is records of one key, each of which stands ahead of the next one.
func ladder(key string) []api.Rec {
	at := api.Stamp{Phys: 50, Logical: 5, Node: 5}
	v := api.Rec{Key: key, Stamp: at, Kind: api.Value}
	l := []api.Rec{
		{Key: key, Stamp: api.Stamp{Phys: 49, Logical: 9, Node: 9}, Kind: api.Value, Flags: 9, Expiry: 9, Body: "z"},
		{Key: key, Stamp: api.Stamp{Phys: 50, Logical: 4, Node: 9}, Kind: api.Value, Flags: 9, Expiry: 9, Body: "z"},
		{Key: key, Stamp: api.Stamp{Phys: 50, Logical: 5, Node: 4}, Kind: api.Value, Flags: 9, Expiry: 9, Body: "z"},
		{Key: key, Stamp: at, Kind: api.Marker},
		{Key: key, Stamp: at, Kind: api.Tomb},
	}
	add := func(flags uint32, expiry uint64, body string) {
		v.Flags, v.Expiry, v.Body = flags, expiry, body
		l = append(l, v)
	}
	add(0, 0, "")
	add(0, 9, "")
	add(9, 0, "")
	add(9, 9, "")
	add(0, 0, "a")
	add(0, 0, "a\x00")
	add(0, 8, "ab")
	add(0, 9, "ab")
	add(1, 0, "ab")
	add(0, 0, "b")
	add(0, 0, "\xff")
	return append(l,
		api.Rec{Key: key, Stamp: api.Stamp{Phys: 50, Logical: 5, Node: 6}, Kind: api.Marker},
		api.Rec{Key: key, Stamp: api.Stamp{Phys: 50, Logical: 6}, Kind: api.Marker},
		api.Rec{Key: key, Stamp: api.Stamp{Phys: 51}, Kind: api.Marker})
}

// P13.1, P13.2: of a key that is there, what stands ahead is refused, what it is is told, and what stands behind is put over it: by the stamp's parts, the kind, the body, the flags, the expiry.
func TestOfAKeyThatIsThere(t *testing.T) {
	l := ladder("a")
	for i, first := range l {
		for k, then := range l {
			b := newBoth(t, 2, 100, 10, "a", "b")
			expectPut(t, b, value("b", 50, ""), 50, true, api.OK)
			expectPut(t, b, first, 50, true, api.OK)
			kept := first
			switch {
			case k < i:
				expectPut(t, b, then, 50, false, api.ErrOld)
			case k == i:
				expectPut(t, b, then, 50, false, api.OK)
			default:
				expectPut(t, b, then, 50, true, api.OK)
				kept = then
			}
			if r, there := b.store.Peek("a"); !there || r != kept {
				t.Errorf("there is %s, not %s", tell(r), tell(kept))
			}
			expectEvicted(t, b, 0)
			expectFloor(t, b, "a", api.Stamp{})
		}
	}
}

// P13.1, P13.2: of a key that isn't there, only what has a stamp behind the floor is put, whether its own record or another one of its range left that.
func TestFloor(t *testing.T) {
	keys := ofRange(7, 3)
	other := ofRange(8, 1)[0]
	floor := api.Stamp{Phys: 50, Logical: 5, Node: 5}
	for _, key := range keys {
		for _, c := range []struct {
			stamp api.Stamp
			want  api.Errno
		}{
			{api.Stamp{Phys: 49, Logical: 9, Node: 9}, api.ErrOld},
			{api.Stamp{Phys: 50, Logical: 4, Node: 9}, api.ErrOld},
			{api.Stamp{Phys: 50, Logical: 5, Node: 4}, api.ErrOld},
			{floor, api.ErrOld},
			{api.Stamp{Phys: 50, Logical: 5, Node: 6}, api.OK},
			{api.Stamp{Phys: 50, Logical: 6}, api.OK},
			{api.Stamp{Phys: 51}, api.OK},
		} {
			for _, kind := range []uint8{api.Marker, api.Tomb, api.Value} {
				b := newBoth(t, 1, 100, 10, append(keys, other)...)
				expectPut(t, b, api.Rec{Key: keys[0], Stamp: floor, Kind: api.Tomb}, 50, true, api.OK)
				expectPut(t, b, value(other, 45, ""), 50, true, api.OK)
				expectFloor(t, b, key, floor)
				expectFloor(t, b, other, api.Stamp{})
				expectPut(t, b, api.Rec{Key: key, Stamp: c.stamp, Kind: kind}, 50, c.want == api.OK, c.want)
			}
		}
	}
}

// P13.1: at first a floor is (0, 0, 0): what has just this stamp is old.
func TestFirstFloor(t *testing.T) {
	for _, r := range []api.Rec{marker("a", 0), tomb("a", 0), value("a", 0, "x")} {
		b := newBoth(t, 1, 10, 10, "a")
		expectPut(t, b, r, 0, false, api.ErrOld)
		r.Stamp.Node = 1
		expectPut(t, b, r, 0, true, api.OK)
		b = newBoth(t, 1, 10, 10, "a")
		r.Stamp = api.Stamp{Logical: 1}
		expectPut(t, b, r, 0, true, api.OK)
	}
}

// P13.1: the floor of its range is nothing to a key that is there.
func TestFloorAndAKeyThatIsThere(t *testing.T) {
	keys := ofRange(7, 3)
	b := newBoth(t, 2, 100, 10, keys...)
	expectPut(t, b, value(keys[0], 5, ""), 9, true, api.OK)
	expectPut(t, b, value(keys[1], 9, ""), 9, true, api.OK)
	b.get(keys[0])
	expectPut(t, b, value(keys[2], 8, ""), 9, true, api.OK)
	expectKeys(t, b, keys[0], keys[2])
	expectFloor(t, b, keys[0], api.Stamp{Phys: 9})
	expectPut(t, b, value(keys[0], 4, ""), 9, false, api.ErrOld)
	expectPut(t, b, value(keys[0], 5, ""), 9, false, api.OK)
	expectPut(t, b, value(keys[0], 7, ""), 9, true, api.OK)
	expectPut(t, b, value(keys[0], 9, ""), 9, true, api.OK)
	expectEvicted(t, b, 1)
}

// P13.1, P13.3: a key and a body of just Bytes bytes are put, one more isn't; what is old is told to be that first.
func TestTooLong(t *testing.T) {
	for _, bytes := range []int{1, 2, 10, 250, 1000} {
		body := strings.Repeat("x", bytes-1)
		b := newBoth(t, 2, bytes, 10, "a", "b", "long")
		expectPut(t, b, value("a", 5, body), 5, true, api.OK)
		expectPut(t, b, value("a", 6, body+"x"), 6, false, api.ErrFull)
		expectPut(t, b, value("b", 6, body+"x"), 6, false, api.ErrFull)
		expectPut(t, b, value("a", 4, body+"x"), 6, false, api.ErrOld)
		expectPut(t, b, value("b", 0, body+"x"), 6, false, api.ErrOld)
		expectPut(t, b, value("b", 6, body+"x"), 16, false, api.ErrOld)
		if r, there := b.store.Peek("a"); !there || r != value("a", 5, body) {
			t.Errorf("there is %s, %v", tell(r), there)
		}
		expectEvicted(t, b, 0)
		expectPut(t, b, value("b", 7, body), 7, true, api.OK)
		expectKeys(t, b, "b")
		expectPut(t, b, value("a", 5, body+"x"), 7, false, api.ErrOld)
		expectPut(t, b, value("a", 6, body+"x"), 7, false, api.ErrFull)
		expectPut(t, b, value("a", 6, body), 7, true, api.OK)
	}
	b := newBoth(t, 2, 3, 10, "a", "long")
	expectPut(t, b, tomb("long", 5), 5, false, api.ErrFull)
	expectPut(t, b, marker("lon", 5), 5, true, api.OK)
	b = newBoth(t, 1, 1274, 10, "a")
	whole := value(strings.Repeat("k", 250), 5, strings.Repeat("x", 1024))
	expectPut(t, b, whole, 5, true, api.OK)
	b = newBoth(t, 1, 1273, 10, "a")
	expectPut(t, b, whole, 5, false, api.ErrFull)
}

// P13.1: what is put over one of its key needs only the room that this one leaves: nothing is evicted, and no floor is left.
func TestPutOver(t *testing.T) {
	b := newBoth(t, 3, 30, 10, "a", "b", "c")
	for _, key := range []string{"a", "b", "c"} {
		expectPut(t, b, value(key, 5, "123456789"), 5, true, api.OK)
	}
	for i, key := range []string{"a", "b", "c", "c", "a"} {
		expectPut(t, b, value(key, uint64(6+i), "987654321"), 10, true, api.OK)
		expectKeys(t, b, "a", "b", "c")
	}
	expectPut(t, b, value("b", 11, "1"), 11, true, api.OK)
	expectPut(t, b, value("c", 11, "12345678901234567"), 11, true, api.OK)
	expectKeys(t, b, "a", "b", "c")
	if n := b.store.Size(); n != 30 {
		t.Errorf("Size: %d", n)
	}
	expectEvicted(t, b, 0)
	for k := range 64 {
		if f := b.store.Floor(k); f != (api.Stamp{}) {
			t.Errorf("Floor(%d): %v", k, f)
		}
	}
	// One byte more, and the one used longest ago has to go: a, not b.
	expectPut(t, b, value("c", 12, "123456789012345678"), 12, true, api.OK)
	expectKeys(t, b, "b", "c")
	expectEvicted(t, b, 1)
	expectFloor(t, b, "a", api.Stamp{Phys: 10})
}

// P13.1: what is put over is used last, and isn't the one that is evicted for its own room.
func TestPutOverTheOldest(t *testing.T) {
	b := newBoth(t, 3, 12, 10, "a", "b", "c")
	expectPut(t, b, value("a", 5, "123"), 5, true, api.OK)
	expectPut(t, b, value("b", 5, "123"), 5, true, api.OK)
	expectPut(t, b, value("c", 5, "123"), 5, true, api.OK)
	expectPut(t, b, value("a", 6, "1234"), 6, true, api.OK)
	expectKeys(t, b, "a", "c")
	expectEvicted(t, b, 1)
	expectFloor(t, b, "b", api.Stamp{Phys: 5})
	expectFloor(t, b, "a", api.Stamp{})
	expectPut(t, b, value("a", 7, "12345678901"), 7, true, api.OK)
	expectKeys(t, b, "a")
	expectEvicted(t, b, 2)
	expectFloor(t, b, "c", api.Stamp{Phys: 5})
	expectFloor(t, b, "a", api.Stamp{})
}

// P13.1, P13.3: a Put evicts as many as it must: none, one, several, all others.
func TestEvictions(t *testing.T) {
	keys := []string{"a", "b", "c", "d", "e", "f"}
	for left := range 6 {
		b := newBoth(t, 10, 24, 10, keys...)
		for i, key := range keys[:5] {
			expectPut(t, b, value(key, uint64(5+i), "123"), 9, true, api.OK)
		}
		// The others have 4 bytes each.
		expectPut(t, b, value("f", 9, strings.Repeat("x", 23-4*left)), 9, true, api.OK)
		want := append(slices.Clone(keys[5-left:5]), "f")
		expectKeys(t, b, want...)
		expectEvicted(t, b, 5-left)
		for i, key := range keys[:5] {
			if i < 5-left {
				expectFloor(t, b, key, api.Stamp{Phys: uint64(5 + i)})
			} else {
				expectFloor(t, b, key, api.Stamp{})
			}
		}
	}
	b := newBoth(t, 3, 100, 10, keys...)
	for i, key := range keys {
		expectPut(t, b, value(key, 5, ""), 9, true, api.OK)
		expectEvicted(t, b, max(i-2, 0))
		expectKeys(t, b, keys[max(i-2, 0):i+1]...)
	}
}

// P13.1: both bounds at once: as many go as the bytes ask for, though one would do for the slots.
func TestBothBounds(t *testing.T) {
	b := newBoth(t, 3, 10, 10, "a", "b", "c", "d")
	for _, key := range []string{"a", "b", "c"} {
		expectPut(t, b, value(key, 5, "1"), 5, true, api.OK)
	}
	expectPut(t, b, value("d", 5, "1234567"), 5, true, api.OK)
	expectKeys(t, b, "c", "d")
	expectEvicted(t, b, 2)
}

// P13.1: the one used longest ago goes first; Get and Put use a record, and nothing else does.
func TestUse(t *testing.T) {
	keys := []string{"a", "b", "c", "d"}
	fill := func() *both {
		b := newBoth(t, 3, 100, 10, keys...)
		for _, key := range keys[:3] {
			expectPut(t, b, value(key, 5, "x"), 9, true, api.OK)
		}
		return b
	}
	for _, c := range []struct {
		what string
		do   func(b *both)
		out  string
	}{
		{"nothing", func(b *both) {}, "a"},
		{"Get(a)", func(b *both) { b.get("a") }, "b"},
		{"Get(b)", func(b *both) { b.get("b") }, "a"},
		{"Get(a), Get(b)", func(b *both) { b.get("a"); b.get("b") }, "c"},
		{"Get(a), Get(a)", func(b *both) { b.get("a"); b.get("a") }, "b"},
		{"Get of none", func(b *both) { b.get("d"); b.get("") }, "a"},
		{"Put over", func(b *both) { b.put(value("a", 6, "x"), 9) }, "b"},
		{"Put over, Get(b)", func(b *both) { b.put(value("a", 6, "x"), 9); b.get("b") }, "c"},
		{"Peek", func(b *both) { b.store.Peek("a") }, "a"},
		{"Range", func(b *both) { b.store.Range(mix.Range("a")) }, "a"},
		{"Digest and Floor", func(b *both) { b.store.Digest(mix.Range("a")); b.store.Floor(mix.Range("a")) }, "a"},
		{"Len, Size and Evicted", func(b *both) { b.store.Len(); b.store.Size(); b.store.Evicted() }, "a"},
		{"Purge of none", func(b *both) { b.purge(9) }, "a"},
		{"Put of what is there", func(b *both) { b.put(value("a", 5, "x"), 9) }, "a"},
		{"Put of what stands ahead", func(b *both) { b.put(value("a", 4, "x"), 9) }, "a"},
		{"Put of what is old", func(b *both) { b.put(value("a", 6, "x"), 16) }, "a"},
		{"Put of what is too long", func(b *both) { b.put(value("a", 6, strings.Repeat("x", 100)), 9) }, "a"},
		{"Put of what may not be", func(b *both) { b.put(api.Rec{Key: "a"}, 9) }, "a"},
	} {
		b := fill()
		c.do(b)
		expectPut(t, b, value("d", 5, ""), 9, true, api.OK)
		left := slices.DeleteFunc(slices.Clone(keys), func(key string) bool { return key == c.out })
		expectKeys(t, b, left...)
		if t.Failed() {
			t.Fatalf("behind %s", c.what)
		}
	}
}

// P13.1, P13.2: an eviction raises the floor, and never lowers it.
func TestFloorRisesOnly(t *testing.T) {
	keys := ofRange(20, 4)
	other := ofRange(21, 1)[0]
	b := newBoth(t, 2, 100, 100, append(keys, other)...)
	expectPut(t, b, value(keys[0], 50, ""), 60, true, api.OK)
	expectPut(t, b, value(keys[1], 40, ""), 60, true, api.OK)
	expectPut(t, b, value(other, 1, ""), 60, true, api.OK)
	expectFloor(t, b, keys[0], api.Stamp{Phys: 50})
	expectPut(t, b, value(keys[2], 60, ""), 60, true, api.OK)
	expectEvicted(t, b, 2)
	expectFloor(t, b, keys[0], api.Stamp{Phys: 50})
	b.get(other)
	expectPut(t, b, value(keys[3], 55, ""), 60, true, api.OK)
	expectEvicted(t, b, 3)
	expectFloor(t, b, keys[0], api.Stamp{Phys: 60})
	expectFloor(t, b, other, api.Stamp{})
}

// P13.1: a purge takes out what is old, and nothing else, once, and leaves no floor.
func TestPurge(t *testing.T) {
	keys := ofRange(3, 4)
	b := newBoth(t, 4, 100, 10, keys...)
	for i, key := range keys {
		expectPut(t, b, value(key, uint64(5+i), "x"), 9, true, api.OK)
	}
	for _, c := range []struct {
		now  uint64
		want int
	}{{0, 0}, {9, 0}, {14, 0}, {15, 1}, {15, 0}, {16, 1}, {16, 0}, {15, 0}} {
		if n := b.purge(c.now); n != c.want {
			t.Errorf("Purge(%d): %d, not %d", c.now, n, c.want)
		}
	}
	expectKeys(t, b, keys[2:]...)
	expectPut(t, b, value(keys[0], 6, "x"), 16, false, api.ErrOld)
	expectPut(t, b, value(keys[0], 7, "x"), 16, true, api.OK)
	if n := b.purge(math.MaxUint64); n != 3 || b.store.Size() != 0 {
		t.Errorf("Purge: %d, Size: %d", n, b.store.Size())
	}
	expectKeys(t, b)
	expectEvicted(t, b, 0)
	expectFloor(t, b, keys[0], api.Stamp{})
	// A time that goes back: no floor stands in the way.
	expectPut(t, b, value(keys[0], 1, "x"), 2, true, api.OK)
}

// P13.1: what was put over in between is old by its new stamp alone; what was evicted isn't purged.
func TestPurgeOfWhatChanged(t *testing.T) {
	b := newBoth(t, 2, 100, 10, "a", "b", "c")
	expectPut(t, b, value("a", 5, ""), 5, true, api.OK)
	expectPut(t, b, value("a", 8, ""), 9, true, api.OK)
	if n := b.purge(17); n != 0 {
		t.Errorf("Purge(17): %d", n)
	}
	if n := b.purge(18); n != 1 {
		t.Errorf("Purge(18): %d", n)
	}
	expectPut(t, b, value("a", 20, ""), 20, true, api.OK)
	expectPut(t, b, value("b", 21, ""), 21, true, api.OK)
	expectPut(t, b, value("c", 25, ""), 25, true, api.OK)
	if n := b.purge(30); n != 0 {
		t.Errorf("Purge(30): %d", n)
	}
	if n := b.purge(35); n != 2 {
		t.Errorf("Purge(35): %d", n)
	}
	expectEvicted(t, b, 1)
}

// P13.1: places that a purge left free are used again, and in the order of use.
func TestAfterPurge(t *testing.T) {
	b := newBoth(t, 3, 100, 10, "a", "b", "c", "d", "e")
	expectPut(t, b, value("a", 9, ""), 9, true, api.OK)
	expectPut(t, b, value("b", 5, ""), 9, true, api.OK)
	expectPut(t, b, value("c", 9, ""), 9, true, api.OK)
	if n := b.purge(15); n != 1 {
		t.Errorf("Purge(15): %d", n)
	}
	expectPut(t, b, value("d", 15, ""), 15, true, api.OK)
	expectKeys(t, b, "a", "c", "d")
	expectPut(t, b, value("e", 15, ""), 15, true, api.OK)
	expectKeys(t, b, "c", "d", "e")
}

// P13.1: Range, Digest and Floor of what is no range, of a range with none, with one, with several keys.
func TestRanges(t *testing.T) {
	for _, k := range []int{0, 1, 31, 62, 63} {
		keys := ofRange(k, 5)
		b := newBoth(t, 5, 1000, 10, keys...)
		for i, at := range newDice(uint64(k)).Perm(5) {
			expectPut(t, b, value(keys[at], 5, "x"), 5, true, api.OK)
			l := b.store.Range(k)
			if len(l) != i+1 || !slices.IsSortedFunc(l, func(a, b api.Rec) int { return strings.Compare(a.Key, b.Key) }) {
				t.Errorf("Range(%d): %v", k, l)
			}
		}
		var digest uint64
		for _, key := range keys {
			digest ^= rec.Digest(value(key, 5, "x"))
		}
		if d := b.store.Digest(k); d != digest {
			t.Errorf("Digest(%d): %x, not %x", k, d, digest)
		}
		expectPut(t, b, value(ofRange((k+1)%64, 1)[0], 5, "x"), 5, true, api.OK)
		expectFloor(t, b, keys[0], api.Stamp{Phys: 5})
		for _, none := range []int{math.MinInt, -64, -1, 64, 65, 128, 1 << 32, 1<<32 + k, math.MaxInt} {
			if l, d, f := b.store.Range(none), b.store.Digest(none), b.store.Floor(none); len(l) != 0 || d != 0 || f != (api.Stamp{}) {
				t.Errorf("of %d: %v, %d, %v", none, l, d, f)
			}
		}
		if l := b.store.Range((k + 2) % 64); len(l) != 0 || b.store.Digest((k+2)%64) != 0 {
			t.Errorf("of %d: %v", (k+2)%64, l)
		}
	}
}

// P13.1: keys rise byte by byte, a beginning ahead of the whole.
func TestRangeRises(t *testing.T) {
	var keys []string
	for _, start := range []string{"a", "ab", "b", "B", "\xff", "\x80", "é", "z"} {
		for i := 0; ; i++ {
			if key := start + strings.Repeat("!", i); mix.Range(key) == 40 {
				keys = append(keys, key)
				break
			}
		}
	}
	d := newDice(40)
	for range 50 {
		b := newBoth(t, 20, 10000, 10, keys...)
		for _, i := range d.Perm(len(keys)) {
			b.put(value(keys[i], 5, ""), 5)
		}
		if n := len(b.store.Range(40)); n != b.store.Len() {
			t.Errorf("Range(40): %d, of %d", n, b.store.Len())
		}
	}
}

// P13.1: a body, flags and an expiry play no part in a digest; a key, a stamp and a kind do.
func TestDigest(t *testing.T) {
	digest := func(r api.Rec) uint64 {
		s, _ := New(1, 100, 10)
		if fresh, e := s.Put(r, 5); !fresh || e != api.OK {
			t.Fatalf("Put(%s): %v, %d", tell(r), fresh, e)
		}
		return s.Digest(mix.Range(r.Key))
	}
	r := value("a", 5, "x")
	if digest(r) != digest(value("a", 5, "y")) || digest(r) != rec.Digest(r) {
		t.Error("a body plays a part")
	}
	for _, other := range []api.Rec{value("b", 5, "x"), value("a", 6, "x"), tomb("a", 5), marker("a", 5)} {
		if digest(other) == digest(r) {
			t.Errorf("%s has the digest of %s", tell(other), tell(r))
		}
	}
}

// P13.1: what Range answered stays as it is when the store changes, and the store when what Range answered is changed, its spare room too.
func TestRangeStandsApart(t *testing.T) {
	for _, n := range []int{1, 2, 3, 5, 17, 40} {
		keys := ofRange(9, n)
		b := newBoth(t, n, 10000, 10, keys...)
		for _, key := range keys {
			b.put(value(key, 5, "x"), 5)
		}
		first, second := b.store.Range(9), b.store.Range(9)
		want := slices.Clone(first)
		for _, key := range keys {
			b.put(value(key, 6, "y"), 6)
		}
		b.purge(100)
		if !slices.Equal(first, want) || !slices.Equal(second, want) {
			t.Errorf("an answer has changed with the store: %v", first)
		}
		for _, key := range keys {
			b.put(value(key, 101, "z"), 101)
		}
		third := b.store.Range(9)
		for _, l := range [][]api.Rec{first, third, b.store.Range(10), b.store.Range(-1)} {
			room := l[:cap(l)]
			for i := range room {
				room[i] = value("nothing", 1, "else")
			}
		}
		b.check("a change of what Range answered")
		if !slices.Equal(second, want) {
			t.Errorf("two answers share memory: %v", second)
		}
	}
}

// P13.1: keys and bodies share memory with nothing that was handed in or out before.
func TestTextsStandApart(t *testing.T) {
	memory := []byte(strings.Repeat("k", 200) + strings.Repeat("b", 1000))
	key, body := unsafe.String(&memory[0], 200), unsafe.String(&memory[200], 1000)
	kept := value(strings.Clone(key), 5, strings.Clone(body))
	b := newBoth(t, 2, 10000, 10, kept.Key)
	if fresh, e := b.store.Put(value(key, 5, body), 5); !fresh || e != api.OK {
		t.Fatalf("Put: %v, %d", fresh, e)
	}
	b.model.put(kept, 5)
	got, _ := b.store.Get(key)
	peeked, _ := b.store.Peek(key)
	again, _ := b.store.Peek(key)
	k := mix.Range(key)
	all := []api.Rec{value(key, 5, body), got, peeked, again, b.store.Range(k)[0], b.store.Range(k)[0]}
	for i, x := range all {
		for _, y := range all[:i] {
			if x != y || unsafe.StringData(x.Key) == unsafe.StringData(y.Key) || unsafe.StringData(x.Body) == unsafe.StringData(y.Body) {
				t.Errorf("%d isn't what was put, or shares memory", i)
			}
		}
	}
	for i := range memory {
		memory[i] = 'x'
	}
	b.check("a change of the memory that was handed in")
}

// P13.1: stores side by side know nothing of each other.
func TestTwoStores(t *testing.T) {
	for seed := range uint64(20) {
		d := newDice(500 + seed)
		draw := drawing{keys: someKeys(d), bodies: 5}
		var two [2]*both
		for i := range two {
			two[i] = newBoth(t, 1+d.IntN(6), 1+d.IntN(80), 1+d.IntN(10), draw.keys...)
		}
		for range 150 {
			k := d.IntN(2)
			draw.call(two[k], d)
			two[1-k].check("a call of the other store")
		}
	}
}

// P13.1: no call of a nil store does anything.
func TestNil(t *testing.T) {
	var s *Store
	for _, r := range append(wrong("a"), value("a", 5, "x"), tomb("a", 5), marker("a", 0)) {
		for _, now := range []uint64{0, 5, math.MaxUint64} {
			if fresh, e := s.Put(r, now); fresh || e != api.ErrArg {
				t.Errorf("Put: %v, %d", fresh, e)
			}
			if n := s.Purge(now); n != 0 {
				t.Errorf("Purge: %d", n)
			}
		}
	}
	for _, key := range []string{"", "a", "a b"} {
		if r, there := s.Get(key); there || r != (api.Rec{}) {
			t.Errorf("Get: %v", r)
		}
		if r, there := s.Peek(key); there || r != (api.Rec{}) {
			t.Errorf("Peek: %v", r)
		}
	}
	for _, k := range []int{math.MinInt, -1, 0, 1, 63, 64, math.MaxInt} {
		if l, d, f := s.Range(k), s.Digest(k), s.Floor(k); len(l) != 0 || d != 0 || f != (api.Stamp{}) {
			t.Errorf("of %d: %v, %d, %v", k, l, d, f)
		}
	}
	if s.Len() != 0 || s.Size() != 0 || s.Evicted() != 0 {
		t.Errorf("Len: %d, Size: %d, Evicted: %d", s.Len(), s.Size(), s.Evicted())
	}
}

// P13.1: a call that answers an error, or that there is nothing new, leaves all as it was.
func TestRefusedChangesNothing(t *testing.T) {
	for seed := range uint64(30) {
		d := newDice(700 + seed)
		draw := drawing{keys: someKeys(d), bodies: 8}
		slots, bytes, keep := 1+d.IntN(6), 1+d.IntN(60), 1+d.IntN(10)
		a, b := newBoth(t, slots, bytes, keep, draw.keys...), newBoth(t, slots, bytes, keep, draw.keys...)
		for range 300 {
			r, now := draw.record(a, d), draw.time(a, d)
			if fresh, _ := a.put(r, now); fresh {
				b.put(r, now)
			}
			if d.IntN(5) == 0 {
				key := one(d, draw.keys...)
				if _, there := a.get(key); there {
					b.get(key)
				}
			}
			if !same(a.store, b.store) {
				t.Fatalf("behind Put(%s, %d) that was refused the store is another one", tell(r), now)
			}
		}
	}
}

// P13.1 to P13.3: every row of few calls, on stores for one and for two records.
func TestEveryRow(t *testing.T) {
	two := ofRange(5, 2)
	keys := append(two, ofRange(6, 1)...)
	var calls []func(b *both, now *uint64)
	for _, key := range keys {
		for _, phys := range []uint64{3, 4} {
			calls = append(calls, func(b *both, now *uint64) { b.put(value(key, phys, "x"), *now) })
		}
	}
	calls = append(calls,
		func(b *both, now *uint64) { b.put(value(keys[0], 4, "xyz"), *now) },
		func(b *both, now *uint64) { b.get(keys[0]) },
		func(b *both, now *uint64) { b.purge(*now) },
		func(b *both, now *uint64) { *now++ })
	for _, c := range []struct{ slots, bytes int }{{1, 100}, {2, 100}, {2, 17}} {
		everyRow(len(calls), 4, func(row []int) {
			b := newBoth(t, c.slots, c.bytes, 2, keys...)
			now := uint64(4)
			for _, i := range row {
				calls[i](b, &now)
			}
		})
	}
}

// everyRow goes through all rows of so many numbers below n.
func everyRow(n, length int, do func(row []int)) {
	row := make([]int, length)
	for {
		do(row)
		at := length - 1
		for at >= 0 && row[at] == n-1 {
			row[at] = 0
			at--
		}
		if at < 0 {
			return
		}
		row[at]++
	}
}

// drawing is out of what calls are drawn.
type drawing struct {
	keys   []string
	bodies int  // how long bodies may be
	back   bool // times may go back
}

// someKeys is few or many keys, or some that share ranges.
func someKeys(d dice) []string {
	switch d.IntN(4) {
	case 0:
		return []string{"a", "b", "c"}[:1+d.IntN(3)]
	case 1:
		return ofRange(d.IntN(64), 2+d.IntN(8))
	case 2:
		return append(ofRange(11, 1+d.IntN(4)), ofRange(12, 1+d.IntN(4))...)
	}
	var keys []string
	for i := range 5 + d.IntN(40) {
		keys = append(keys, fmt.Sprint("key", i))
	}
	return keys
}

func (w drawing) record(b *both, d dice) api.Rec {
	if d.IntN(30) == 0 {
		return one(d, wrong(one(d, w.keys...))...)
	}
	keep := uint64(b.model.keep)
	r := api.Rec{Key: one(d, w.keys...), Kind: one[uint8](d, api.Marker, api.Tomb, api.Value, api.Value, api.Value)}
	r.Stamp = api.Stamp{Phys: max(b.now+2, keep) - d.Uint64N(min(b.now+2, keep+4)+1), Logical: d.Uint32N(3), Node: uint8(d.IntN(3))}
	r.Stamp.Phys = min(r.Stamp.Phys, 1<<48-1)
	if r.Kind == api.Value {
		r.Flags, r.Expiry = d.Uint32N(2), d.Uint64N(2)
		r.Body = strings.Repeat(one(d, "x", "y"), d.IntN(w.bodies+1))
	}
	if had, ever := b.had[r.Key]; ever && d.IntN(3) == 0 {
		// What was there once, or is: the same, or of the same stamp.
		if d.IntN(2) == 0 {
			return had
		}
		r.Stamp = had.Stamp
	}
	return r
}

// time rises, stands and leaps, or goes back.
func (w drawing) time(b *both, d dice) uint64 {
	now := b.now
	switch n := d.IntN(100); {
	case n < 40:
		now++
	case n == 41:
		now += uint64(b.model.keep)
	case n == 42:
		now += d.Uint64N(1 << 30)
	case n < 50 && w.back:
		now -= d.Uint64N(min(now, 20) + 1)
	}
	return now
}

func (w drawing) call(b *both, d dice) {
	switch n := d.IntN(20); {
	case n < 12:
		b.put(w.record(b, d), w.time(b, d))
	case n < 17:
		b.get(one(d, w.keys...))
	case n < 19:
		b.purge(w.time(b, d))
	default:
		b.check("a question")
	}
}

// P13.1 to P13.3: rows of calls drawn at random, out of few keys and of many, of stores for few records and for many, of few bytes and of many.
func TestDrawnRows(t *testing.T) {
	for seed := range uint64(120) {
		d := newDice(1000 + seed)
		draw := drawing{keys: someKeys(d), bodies: one(d, 0, 3, 20, 100), back: seed%4 == 3}
		slots := one(d, 1, 2, 3, 1+d.IntN(10), 1+d.IntN(60), 1024)
		bytes := one(d, 1+d.IntN(10), 1+d.IntN(50), 1+d.IntN(300), 1+d.IntN(3000), 1<<20)
		b := newBoth(t, slots, bytes, one(d, 1, 2, 5, 30, 1000), draw.keys...)
		if seed%5 == 0 {
			b.now = one[uint64](d, 1<<32-20, 1<<47, 1<<48-1100, 1<<48-40)
		}
		for range 300 {
			draw.call(b, d)
		}
	}
}

// P13.1, P13.3: a store of the greatest bounds, filled beyond them.
func TestGreatStore(t *testing.T) {
	var keys []string
	for i := range 1500 {
		keys = append(keys, fmt.Sprint("k", i))
	}
	s, e := New(1024, 1<<20, 1000)
	m := model{slots: 1024, bytes: 1 << 20, keep: 1000}
	if e != api.OK {
		t.Fatal(e)
	}
	b := &both{t: t, store: s, model: m, keys: keys, had: map[string]api.Rec{}}
	d := newDice(2)
	for i := range 6000 {
		r := value(one(d, keys...), 1+d.Uint64N(uint64(i)+1), strings.Repeat("x", d.IntN(1025)))
		now := uint64(i) / 3
		b.time(now)
		fresh, e := s.Put(r, now)
		if wantFresh, want := b.model.put(r, now); fresh != wantFresh || e != want {
			t.Fatalf("Put(%s, %d): %v, %d, not %v, %d", tell(r), now, fresh, e, wantFresh, want)
		}
		if s.Len() > 1024 || s.Size() > 1<<20 {
			t.Fatalf("%d records, %d bytes", s.Len(), s.Size())
		}
		if i%500 == 499 {
			b.check("%d calls", i)
			b.purge(now)
		}
	}
	for i := range 1500 {
		b.store.Put(marker(keys[i], 3000), 3000)
		b.model.put(marker(keys[i], 3000), 3000)
	}
	b.check("many markers")
	if s.Len() != 1024 {
		t.Errorf("Len: %d", s.Len())
	}
}

// P13.2: rows in which late records come again and again, through evictions and purges.
func TestNeverBackwards(t *testing.T) {
	for seed := range uint64(60) {
		d := newDice(3000 + seed)
		draw := drawing{keys: ofRange(33, 1+d.IntN(5)), bodies: 2}
		b := newBoth(t, 1+d.IntN(3), 10+d.IntN(40), 1+d.IntN(8), draw.keys...)
		var sent []api.Rec
		for range 400 {
			r := draw.record(b, d)
			if len(sent) > 0 && d.IntN(2) == 0 {
				r = one(d, sent...)
			}
			sent = append(sent, r)
			b.put(r, draw.time(b, d))
			if d.IntN(6) == 0 {
				b.purge(b.now)
			}
		}
		if b.back {
			t.Fatal("a time went back")
		}
	}
}

// P13.4: as long as nothing is evicted, and none is old, the same records leave the same records, in any order, however often they are put: of each key the last one.
func TestSameInAnyOrder(t *testing.T) {
	for seed := range uint64(60) {
		d := newDice(4000 + seed)
		keys := someKeys(d)
		var all []api.Rec
		for range 1 + d.IntN(60) {
			r := one(d, ladder(one(d, keys...))...)
			all = append(all, r)
		}
		var first []api.Rec
		for round := range 6 {
			b := newBoth(t, len(keys)+d.IntN(3), 1<<20, 1000, keys...)
			row := slices.Concat(all, all[:d.IntN(len(all))], all[d.IntN(len(all)):])
			d.Shuffle(len(row), func(i, k int) { row[i], row[k] = row[k], row[i] })
			for _, r := range row {
				b.put(r, 49+d.Uint64N(900))
			}
			expectEvicted(t, b, 0)
			var left []api.Rec
			for k := range 64 {
				left = append(left, b.store.Range(k)...)
			}
			if round == 0 {
				first = left
				expectLastOnes(t, all, left)
			}
			if !slices.Equal(left, first) {
				t.Fatalf("%v are left, where another order left %v", left, first)
			}
		}
	}
}

// expectLastOnes lays what is left against what was put alone.
func expectLastOnes(t *testing.T, put, left []api.Rec) {
	t.Helper()
	for _, r := range put {
		if !slices.ContainsFunc(left, func(l api.Rec) bool { return l.Key == r.Key && stands(l, r) >= 0 }) {
			t.Errorf("%s is put, and nothing is left that doesn't stand ahead of it", tell(r))
		}
	}
	for _, l := range left {
		if !slices.Contains(put, l) {
			t.Errorf("%s is left, and was never put", tell(l))
		}
	}
}

// P13.4: every order of few records.
func TestEveryOrder(t *testing.T) {
	l := []api.Rec{value("a", 5, "x"), tomb("a", 5), value("a", 6, ""), value("b", 1, ""), marker("b", 6)}
	everyRow(len(l), len(l), func(row []int) {
		b := newBoth(t, 2, 100, 10, "a", "b")
		var put []api.Rec
		for _, i := range row {
			b.put(l[i], 7)
			put = append(put, l[i])
		}
		expectEvicted(t, b, 0)
		expectLastOnes(t, put, append(b.store.Range(mix.Range("a")), b.store.Range(mix.Range("b"))...))
	})
}
