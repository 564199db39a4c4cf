package count

import (
	"fmt"
	"math/bits"
	"slices"
	"strings"
	"testing"
	"unsafe"

	"tattler/api"
)

func stat(name string, n uint64) api.Stat { return api.Stat{Name: name, Value: n} }

// numbered are so many names, none of them twice, and not in the order of their bytes.
func numbered(n int) []string {
	l := make([]string, n)
	for i := range l {
		l[i] = fmt.Sprint("count ", (i*2654435761)%100003, " ", i)
	}
	return l
}

// expectAll lays what All answers against a row that was reckoned by hand.
func expectAll(t *testing.T, b *both, want ...api.Stat) {
	t.Helper()
	if got := b.all(); !slices.Equal(got, want) {
		t.Fatalf("%s: %v, not %v", b.calls, got, want)
	}
}

func expectReset(t *testing.T, b *both, want ...api.Stat) {
	t.Helper()
	if got := b.reset(); !slices.Equal(got, want) {
		t.Fatalf("%s: %v, not %v", b.calls, got, want)
	}
}

func expectGet(t *testing.T, b *both, name string, want uint64) {
	t.Helper()
	if n := b.get(name); n != want {
		t.Fatalf("%s: %d, not %d", b.calls, n, want)
	}
}

func expectAdd(t *testing.T, b *both, name string, n uint64, want bool) {
	t.Helper()
	if there := b.add(name, n); there != want {
		t.Fatalf("%s: %v, not %v", b.calls, there, want)
	}
}

// expectNone holds that there may be no counts of these names.
func expectNone(t *testing.T, names []string) {
	t.Helper()
	if c, e := New(names); c != nil || e != api.ErrArg {
		t.Fatalf("New of %d names, %.60q: %v, %d", len(names), names, c != nil, e)
	}
}

// expectFresh holds that there may be counts of these names, one for each, 0, in the order of the names.
func expectFresh(t *testing.T, names []string) *Counts {
	t.Helper()
	c := newCounts(t, names...)
	l := c.All()
	if len(l) != len(names) {
		t.Fatalf("%d counts of %d names", len(l), len(names))
	}
	for i, name := range names {
		if l[i] != stat(name, 0) || c.Get(name) != 0 {
			t.Fatalf("%d of %d: %.60q, %d", i, len(names), l[i].Name, l[i].Value)
		}
	}
	return c
}

// P23.1: the chapter's example.
func TestExample(t *testing.T) {
	b := newBoth(t, "a", "b")
	expectAdd(t, b, "a", 5, true)
	expectAdd(t, b, "a", top, true)
	expectGet(t, b, "a", top)
	expectAdd(t, b, "c", 1, false)
	expectGet(t, b, "c", 0)
	expectGet(t, b, "b", 0)
	expectAll(t, b, stat("a", top), stat("b", 0))
}

// P23.1: an ordinary row of calls: All and Get behind a Reset, a Reset behind a Reset, and counts that are added to anew.
func TestOrdinary(t *testing.T) {
	b := newBoth(t, "sets", "gets", "bad")
	expectAll(t, b, stat("sets", 0), stat("gets", 0), stat("bad", 0))
	expectReset(t, b, stat("sets", 0), stat("gets", 0), stat("bad", 0))
	expectAdd(t, b, "gets", 3, true)
	expectAdd(t, b, "sets", 1, true)
	expectAdd(t, b, "gets", 4, true)
	expectAdd(t, b, "lost", 9, false)
	expectAll(t, b, stat("sets", 1), stat("gets", 7), stat("bad", 0))
	expectAll(t, b, stat("sets", 1), stat("gets", 7), stat("bad", 0))
	expectGet(t, b, "gets", 7)
	expectGet(t, b, "gets", 7)
	expectReset(t, b, stat("sets", 1), stat("gets", 7), stat("bad", 0))
	expectGet(t, b, "gets", 0)
	expectGet(t, b, "sets", 0)
	expectAll(t, b, stat("sets", 0), stat("gets", 0), stat("bad", 0))
	expectReset(t, b, stat("sets", 0), stat("gets", 0), stat("bad", 0))
	expectAdd(t, b, "gets", 2, true)
	expectAdd(t, b, "bad", top, true)
	expectReset(t, b, stat("sets", 0), stat("gets", 2), stat("bad", top))
	expectAdd(t, b, "bad", 1, true)
	expectAll(t, b, stat("sets", 0), stat("gets", 0), stat("bad", 1))
}

// P23.1: New of no names, of one, of just as many as there may be, and of more.
func TestHowManyNames(t *testing.T) {
	expectNone(t, nil)
	expectNone(t, []string{})
	expectNone(t, make([]string, 0, 5))
	for _, n := range []int{1, 2, 3, 10, 63, 64, 65, 255, 256, 257, 1023, 1024, 1025, 2048, 4094, 4095, 4096} {
		expectFresh(t, numbered(n))
	}
	for _, n := range []int{4097, 4098, 5000, 8192, 65536, 100000} {
		expectNone(t, numbered(n))
	}
	if api.MaxList != 4096 {
		t.Error(api.MaxList)
	}
}

// P23.1: New of a name that is empty, and of a name that is there twice, wherever they stand.
func TestWrongNamesAnywhere(t *testing.T) {
	for n := 1; n <= 12; n++ {
		for i := range n {
			names := numbered(n)
			names[i] = ""
			expectNone(t, names)
			for j := range i {
				names = numbered(n)
				names[i] = strings.Clone(names[j])
				expectNone(t, names)
				names[i] = names[j] + "x"
				expectFresh(t, names)
			}
		}
	}
	places := []int{0, 1, 2, 62, 63, 64, 255, 256, 1023, 1024, 2047, 2048, 3000, 4093, 4094, 4095}
	for _, i := range places {
		names := numbered(4096)
		names[i] = ""
		expectNone(t, names)
		for _, j := range places {
			if j < i {
				names[i] = strings.Clone(names[j])
				expectNone(t, names)
			}
		}
	}
	expectNone(t, []string{"", ""})
	expectNone(t, []string{"a", "a", ""})
	expectNone(t, []string{"a", "b", "a", "b"})
	expectNone(t, slices.Repeat([]string{"a"}, 4096))
	expectNone(t, slices.Repeat([]string{"a"}, 4097))
	expectNone(t, make([]string, 4096))
	expectNone(t, make([]string, 4097))
}

// P23.1: names have any bytes, and those that differ in one byte or in their length are two.
func TestAnyBytes(t *testing.T) {
	var names []string
	for x := range 256 {
		names = append(names, string([]byte{byte(x)}), string([]byte{byte(x), byte(x)}), string([]byte{'a', byte(x)}), string([]byte{byte(x), 'a', 0}))
	}
	for _, name := range odd {
		if !slices.Contains(names, name) {
			names = append(names, name)
		}
	}
	long := strings.Repeat("x", 70000)
	names = append(names, long, long+"x", long[1:]+"y", "y"+long[1:], long[:250], long[:251], strings.Repeat("\xff", 300))
	slices.Sort(names)
	names = slices.Compact(names)
	slices.Reverse(names)
	c := expectFresh(t, names)
	for i, name := range names {
		if !c.Add(name, uint64(i)+7) {
			t.Fatalf("%.20q isn't there", name)
		}
	}
	for i, x := range c.All() {
		if x != stat(names[i], uint64(i)+7) || c.Get(names[i]) != uint64(i)+7 {
			t.Fatalf("%d: %.20q, %d", i, x.Name, x.Value)
		}
	}
}

// P23.1: names that there are none of, as close as they may be: Add is false, Get is 0, and nothing has changed; nor are they there behind it.
func TestNoSuchName(t *testing.T) {
	names := []string{"gets", "a", "\x00", "b c"}
	for _, none := range []string{"", "get", "getss", "Gets", "GETS", " gets", "gets ", "gets\x00", "ets", "A", "aa", "\x00\x00", "\x01", "b", "c", "b  c", "bc", "sets", "\xff", strings.Repeat("a", 5000)} {
		b := newBoth(t, names...)
		for i, name := range names {
			expectAdd(t, b, name, uint64(i)+1, true)
		}
		for _, n := range []uint64{0, 1, 5, 1 << 63, top} {
			expectAdd(t, b, none, n, false)
			expectGet(t, b, none, 0)
			expectAll(t, b, stat("gets", 1), stat("a", 2), stat("\x00", 3), stat("b c", 4))
		}
		expectReset(t, b, stat("gets", 1), stat("a", 2), stat("\x00", 3), stat("b c", 4))
		expectAdd(t, b, none, 1, false)
		expectGet(t, b, none, 0)
	}
}

// capped is reckoned by the sum's carry.
func capped(a, b uint64) uint64 {
	sum, carry := bits.Add64(a, b, 0)
	if carry > 0 {
		return 1<<64 - 1
	}
	return sum
}

// P23.1 and P23.2: each edge added to a count at each edge: at most 2^64 - 1, never round.
func TestEdges(t *testing.T) {
	edges := []uint64{0, 1, 2, 3, 255, 256, 257, 1<<31 - 1, 1 << 31, 1<<32 - 1, 1 << 32, 1<<32 + 1, 1<<53 + 1, 1<<62 - 1, 1 << 62, 1<<63 - 1, 1 << 63, 1<<63 + 1, 1<<64 - 1<<32, top - 3, top - 2, top - 1, top}
	for _, was := range edges {
		for _, n := range edges {
			want := capped(was, n)
			b := newBoth(t, "x", "a", "y")
			expectAdd(t, b, "a", was, true)
			expectGet(t, b, "a", was)
			expectAdd(t, b, "a", n, true)
			expectGet(t, b, "a", want)
			expectAll(t, b, stat("x", 0), stat("a", want), stat("y", 0))
			expectAdd(t, b, "a", 0, true)
			expectGet(t, b, "a", want)
			expectReset(t, b, stat("x", 0), stat("a", want), stat("y", 0))
			expectAdd(t, b, "a", n, true)
			expectGet(t, b, "a", n)
		}
	}
}

// P23.1 and P23.2: the rows that the numbers' end is in, by hand.
func TestAtTheTop(t *testing.T) {
	for _, row := range []struct{ was, n, want uint64 }{
		{0, 0, 0},
		{0, 1, 1},
		{0, 1 << 63, 1 << 63},
		{0, top, top},
		{1, top - 1, top},
		{1, top, top},
		{1 << 63, 1<<63 - 1, top},
		{1 << 63, 1 << 63, top},
		{1<<63 - 1, 1 << 63, top},
		{1<<63 - 1, 1<<63 - 1, top - 1},
		{top - 1, 0, top - 1},
		{top - 1, 1, top},
		{top - 1, 2, top},
		{top - 1, 1 << 63, top},
		{top - 1, top, top},
		{top, 0, top},
		{top, 1, top},
		{top, 1 << 63, top},
		{top, top, top},
	} {
		c := newCounts(t, "a")
		if !c.Add("a", row.was) || !c.Add("a", row.n) || c.Get("a") != row.want {
			t.Errorf("%d and %d: %d, not %d", row.was, row.n, c.Get("a"), row.want)
		}
	}
	// It stays there, however much is added, and not beyond a Reset.
	b := newBoth(t, "b", "a")
	for i := range 200 {
		expectAdd(t, b, "a", top-uint64(i), true)
		expectGet(t, b, "a", top)
	}
	expectReset(t, b, stat("b", 0), stat("a", top))
	expectGet(t, b, "a", 0)
	expectAdd(t, b, "a", 4, true)
	expectAll(t, b, stat("b", 0), stat("a", 4))
}

// P23.3: a count that comes to just 2^64 - 1 by unlike ways, with Resets between: nothing is lost.
func TestNothingIsLost(t *testing.T) {
	for _, parts := range [][]uint64{{top}, {1, top - 1}, {top - 1, 1}, {1 << 63, 1<<63 - 1}, {1<<63 - 1, 1 << 63}, {1 << 62, 1 << 62, 1 << 62, 1<<62 - 1}, {5, 0, top - 5}} {
		for resets := range 1 << len(parts) {
			b := newBoth(t, "x", "a")
			var sum uint64
			for i, n := range parts {
				b.add("a", n)
				if resets>>i&1 == 1 {
					sum += b.reset()[1].Value
				}
			}
			if sum += b.get("a"); sum != top {
				t.Fatalf("%s: %d", b.calls, sum)
			}
		}
	}
}

// P23.1: what is added to one of many counts changes no other one; All and Reset have all of them, in the names' order.
func TestManyCounts(t *testing.T) {
	names := numbered(4096)
	c := expectFresh(t, names)
	want := make([]api.Stat, len(names))
	for i, name := range names {
		want[i] = stat(name, 0)
	}
	for step, i := range []int{0, 1, 4095, 4094, 63, 64, 255, 256, 2047, 2048, 1000} {
		if !c.Add(names[i], uint64(step)+1) {
			t.Fatal(i)
		}
		want[i].Value += uint64(step) + 1
		if got := c.All(); !slices.Equal(got, want) {
			t.Fatalf("%d: another one has changed", i)
		}
	}
	for i, name := range names {
		c.Add(name, uint64(i)<<40)
		want[i].Value += uint64(i) << 40
	}
	if !slices.Equal(c.All(), want) || !slices.Equal(c.Reset(), want) {
		t.Fatal("not what was added")
	}
	for i := range want {
		want[i].Value = 0
	}
	if !slices.Equal(c.All(), want) || !slices.Equal(c.Reset(), want) {
		t.Fatal("behind a Reset they aren't 0")
	}
}

// P23.1: the order is that of the names, as they were handed in: each order of four.
func TestEachOrder(t *testing.T) {
	names := []string{"b", "a", "\xff", "B"}
	for i := range 256 {
		order := []int{i & 3, i >> 2 & 3, i >> 4 & 3, i >> 6}
		row := make([]string, 4)
		for at, x := range order {
			row[at] = names[x]
		}
		if newModel(row) == nil {
			expectNone(t, row)
			continue
		}
		b := newBoth(t, row...)
		var want []api.Stat
		for _, x := range order {
			expectAdd(t, b, names[x], uint64(x)*10, true)
			want = append(want, stat(names[x], uint64(x)*10))
		}
		expectAll(t, b, want...)
		expectReset(t, b, want...)
	}
}

// R1, R5: nil Counts have nothing.
func TestNil(t *testing.T) {
	var c *Counts
	for _, name := range []string{"", "a", "gets", "\x00"} {
		for _, n := range []uint64{0, 1, top} {
			if c.Add(name, n) || c.Get(name) != 0 {
				t.Errorf("Add(%q, %d), Get: nil Counts have it", name, n)
			}
		}
	}
	for range 2 {
		if len(c.All()) != 0 || len(c.Reset()) != 0 {
			t.Error("nil Counts have some")
		}
	}
}

// R3: the names that are handed in are left as they are, their spare room too, and may be changed behind New.
func TestNamesStandApart(t *testing.T) {
	room := []string{"a", "b", "c", "spare", "room", ""}
	was := slices.Clone(room)
	names := room[:3]
	c := newCounts(t, names...)
	c, e := New(names)
	if e != api.OK {
		t.Fatal(e)
	}
	c.Add("b", 3)
	c.All()
	c.Reset()
	c.Add("c", 4)
	if !slices.Equal(room, was) {
		t.Fatalf("%q became %q", was, room)
	}
	names[0], names[1], names[2] = "z", "a", ""
	if c.Add("z", 1) || !c.Add("a", 1) || !slices.Equal(c.All(), []api.Stat{stat("a", 1), stat("b", 0), stat("c", 4)}) {
		t.Fatal(c.All())
	}
	clear(names)
	if c.Add("", 1) || !slices.Equal(c.Reset(), []api.Stat{stat("a", 1), stat("b", 0), stat("c", 4)}) {
		t.Fatal(c.All())
	}
	for _, wrong := range [][]string{{"a", "b", "a"}, {"a", ""}, {}} {
		wrong = append(make([]string, 0, 9), wrong...)
		whole := slices.Clone(wrong[:9])
		expectNone(t, wrong)
		if !slices.Equal(wrong[:9], whole) {
			t.Fatalf("%q became %q", whole, wrong[:9])
		}
	}
}

// R3: what All and Reset answered may be changed, its spare room too, and no later call changes it.
func TestAnswersStandApart(t *testing.T) {
	c := newCounts(t, "a", "b", "c")
	c.Add("a", 1)
	c.Add("b", 2)
	first, second := c.All(), c.All()
	c.Add("c", 3)
	third := c.Reset()
	fourth := c.Reset()
	c.Add("a", 7)
	lists := [][]api.Stat{first, second, third, fourth}
	want := [][]api.Stat{
		{stat("a", 1), stat("b", 2), stat("c", 0)},
		{stat("a", 1), stat("b", 2), stat("c", 0)},
		{stat("a", 1), stat("b", 2), stat("c", 3)},
		{stat("a", 0), stat("b", 0), stat("c", 0)},
	}
	for i := range lists {
		for j := range lists {
			if !slices.Equal(lists[j], want[j]) && j >= i {
				t.Fatalf("%d: %v, not %v", j, lists[j], want[j])
			}
		}
		whole := lists[i][:cap(lists[i])]
		for at := range whole {
			whole[at] = stat("z", 99)
		}
		if got := c.All(); !slices.Equal(got, []api.Stat{stat("a", 7), stat("b", 0), stat("c", 0)}) {
			t.Fatalf("%d: %v", i, got)
		}
	}
	if c.Get("a") != 7 || c.Get("z") != 0 || c.Add("z", 1) || !c.Add("a", 1) {
		t.Fatal(c.All())
	}
}

// R3: the names' bytes that are handed in aren't kept, and those that are answered share no memory, with nothing.
func TestTextsStandApart(t *testing.T) {
	memory := []byte(strings.Repeat("a", 20) + strings.Repeat("b", 20))
	c := newCounts(t, unsafe.String(&memory[0], 20), unsafe.String(&memory[20], 20))
	c.Add(unsafe.String(&memory[0], 20), 5)
	var texts []string
	for _, l := range [][]api.Stat{c.All(), c.All(), c.Reset(), c.Reset()} {
		for _, x := range l {
			texts = append(texts, x.Name)
		}
	}
	if len(texts) != 8 {
		t.Fatal(texts)
	}
	begin := uintptr(unsafe.Pointer(&memory[0]))
	for i, x := range texts {
		if p := uintptr(unsafe.Pointer(unsafe.StringData(x))); p >= begin && p < begin+uintptr(len(memory)) {
			t.Errorf("%d is memory that was handed in", i)
		}
		for j, y := range texts[:i] {
			if unsafe.StringData(x) == unsafe.StringData(y) {
				t.Errorf("%d and %d share their memory", j, i)
			}
		}
	}
	for i := range memory {
		memory[i] = 'z'
	}
	a, b := strings.Repeat("a", 20), strings.Repeat("b", 20)
	if !c.Add(a, 6) || !c.Add(b, 7) || !slices.Equal(c.All(), []api.Stat{stat(a, 6), stat(b, 7)}) {
		t.Fatal(c.All())
	}
}

// R2: two Counts side by side: neither changes the other one.
func TestTwoCounts(t *testing.T) {
	a, b := newBoth(t, "a", "b"), newBoth(t, "b", "a", "c")
	expectAdd(t, a, "a", 5, true)
	expectAll(t, b, stat("b", 0), stat("a", 0), stat("c", 0))
	expectAdd(t, b, "a", top, true)
	expectAdd(t, b, "c", 2, true)
	expectAdd(t, a, "c", 2, false)
	expectAll(t, a, stat("a", 5), stat("b", 0))
	expectReset(t, a, stat("a", 5), stat("b", 0))
	expectAll(t, b, stat("b", 0), stat("a", top), stat("c", 2))
	expectReset(t, b, stat("b", 0), stat("a", top), stat("c", 2))
	expectAdd(t, a, "b", 1, true)
	expectNone(t, []string{"a", "a"})
	expectFresh(t, []string{"a", "b"})
	expectAll(t, a, stat("a", 0), stat("b", 1))
}
