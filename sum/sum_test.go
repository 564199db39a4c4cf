package sum

import (
	"hash/crc32"
	"math"
	"strings"
	"testing"
)

// slowMore follows the chapter's words bit by bit, without a table.
func slowMore(sum uint32, s string) uint32 {
	x := sum ^ 0xFFFFFFFF
	for _, b := range []byte(s) {
		x = slowByte(x ^ uint32(b))
	}
	return x ^ 0xFFFFFFFF
}

func slowByte(x uint32) uint32 {
	for range 8 {
		left := x % 2
		x /= 2
		if left == 1 {
			x ^= 0xEDB88320
		}
	}
	return x
}

// everyByte has each of the 256 bytes once, so it is no valid UTF-8.
func everyByte() string {
	b := make([]byte, 256)
	for i := range b {
		b[i] = byte(i)
	}
	return string(b)
}

func backwards(s string) string {
	b := []byte(s)
	for i := range len(s) {
		b[len(s)-1-i] = s[i]
	}
	return string(b)
}

func texts() []string {
	l := []string{"", "123456789", "abc", "cba", "\x00", "\x00\x00", "\r\n", "é", "日本", "\x80\x81",
		everyByte(), backwards(everyByte()), strings.Repeat("\x00", 300), strings.Repeat("\xff", 1000)}
	for i := range 256 {
		l = append(l, string([]byte{byte(i)}), "k"+string([]byte{byte(i)})+"z")
	}
	return l
}

// P2.1: the examples, and values that were reckoned apart from this program.
func TestSumValues(t *testing.T) {
	table := New()
	for _, c := range []struct {
		name, s string
		want    uint32
	}{
		{"empty", "", 0},
		{"the digits", "123456789", 0xCBF43926},
		{"a", "a", 0xE8B7BE43},
		{"abc", "abc", 0x352441C2},
		{"cba", "cba", 0xD8AEF480},
		{"one nought", "\x00", 0xD202EF8D},
		{"two noughts", "\x00\x00", 0x41D912FF},
		{"byte 255", "\xff", 0xFF000000},
		{"four of them", "\xff\xff\xff\xff", 0xFFFFFFFF},
		{"a rune of two bytes", "\xc3\xa9", 0x0E048D3E},
		{"no runes", "\x80\x81", 0xE0E53902},
		{"every byte", everyByte(), 0x29058C73},
		{"every byte backwards", backwards(everyByte()), 0xDA3BA10A},
		{"the longest body of a frame", strings.Repeat("a", 1<<20), 0xD7CD5672},
	} {
		if y := table.Sum(c.s); y != c.want {
			t.Errorf("Sum of %s: %#x, not %#x", c.name, y, c.want)
		}
		if y := New().Sum(c.s); y != c.want {
			t.Errorf("Sum of %s on a new table: %#x, not %#x", c.name, y, c.want)
		}
	}
}

// P2.1: against the words, and against another's table.
func TestSumAsSaid(t *testing.T) {
	table := New()
	for _, s := range texts() {
		if y, want := table.Sum(s), slowMore(0, s); y != want {
			t.Errorf("Sum(%q): %#x, not %#x", s, y, want)
		}
		if y, want := table.Sum(s), crc32.ChecksumIEEE([]byte(s)); y != want {
			t.Errorf("Sum(%q): %#x, not %#x", s, y, want)
		}
	}
}

// P2.1: numbers below 0 and from 256 on stand for a byte, too.
func TestEntryValues(t *testing.T) {
	table := New()
	for _, c := range []struct {
		i    int
		want uint32
	}{
		{0, 0}, {1, 0x77073096}, {2, 0xEE0E612C}, {3, 0x990951BA},
		{127, 0xC0BA6CAD}, {128, 0xEDB88320}, {254, 0x5A05DF1B}, {255, 0x2D02EF8D},
		{256, 0}, {257, 0x77073096}, {511, 0x2D02EF8D}, {512, 0}, {1<<40 + 128, 0xEDB88320},
		{-1, 0x2D02EF8D}, {-2, 0x5A05DF1B}, {-128, 0xEDB88320}, {-255, 0x77073096},
		{-256, 0}, {-257, 0x2D02EF8D}, {-512, 0},
		{math.MaxInt, 0x2D02EF8D}, {math.MinInt, 0}, {math.MinInt + 1, 0x77073096},
	} {
		if y := table.Entry(c.i); y != c.want {
			t.Errorf("Entry(%d): %#x, not %#x", c.i, y, c.want)
		}
		if y := New().Entry(c.i); y != c.want {
			t.Errorf("Entry(%d) of a new table: %#x, not %#x", c.i, y, c.want)
		}
	}
}

// P2.1
func TestEntryAsSaid(t *testing.T) {
	table := New()
	for i := -1024; i < 1024; i++ {
		if y, want := table.Entry(i), slowByte(uint32((i%256+256)%256)); y != want {
			t.Errorf("Entry(%d): %#x, not %#x", i, y, want)
		}
	}
}

// P2.1: More takes any number for a sum, as each is some text's.
func TestMoreValues(t *testing.T) {
	table := New()
	for _, c := range []struct {
		sum  uint32
		s    string
		want uint32
	}{
		{0, "", 0},
		{1, "", 1},
		{0xFFFFFFFF, "", 0xFFFFFFFF},
		{0, "123456789", 0xCBF43926},
		{1, "\x00", 0xA505DF1B},
		{0xFFFFFFFF, "a", 0xC54AAE31},
		{0x12345678, "tattler", 0xE241CF3F},
		{0x80000000, everyByte(), 0xC541F362},
	} {
		if y := table.More(c.sum, c.s); y != c.want {
			t.Errorf("More(%#x, %q): %#x, not %#x", c.sum, c.s, y, c.want)
		}
		if y := New().More(c.sum, c.s); y != c.want {
			t.Errorf("More(%#x, %q) on a new table: %#x, not %#x", c.sum, c.s, y, c.want)
		}
	}
}

// P2.1
func TestMoreAsSaid(t *testing.T) {
	table := New()
	for _, s := range texts() {
		for bit := range 32 {
			sum := uint32(1) << bit
			if y, want := table.More(sum, s), slowMore(sum, s); y != want {
				t.Errorf("More(%#x, %q): %#x, not %#x", sum, s, y, want)
			}
		}
	}
}

// P2.1: each call answers the same, whichever came ahead of it on the same table.
func TestWhicheverComesFirst(t *testing.T) {
	calls := []struct {
		name string
		ask  func(*Table) uint32
		want uint32
	}{
		{"Entry(255)", func(x *Table) uint32 { return x.Entry(255) }, 0x2D02EF8D},
		{"Sum(digits)", func(x *Table) uint32 { return x.Sum("123456789") }, 0xCBF43926},
		{"More(0x12345678, tattler)", func(x *Table) uint32 { return x.More(0x12345678, "tattler") }, 0xE241CF3F},
		{"Sum()", func(x *Table) uint32 { return x.Sum("") }, 0},
	}
	for i := range calls {
		for j := range calls {
			for k := range calls {
				table := New()
				for _, c := range []int{i, j, k, i} {
					if y := calls[c].ask(table); y != calls[c].want {
						t.Errorf("%s, of the row %d %d %d: %#x, not %#x", calls[c].name, i, j, k, y, calls[c].want)
					}
				}
			}
		}
	}
}

// P2.1
func TestNilTable(t *testing.T) {
	var none *Table
	for _, i := range []int{math.MinInt, -1, 0, 1, 255, 256, math.MaxInt} {
		if y := none.Entry(i); y != 0 {
			t.Errorf("Entry(%d) of none: %#x", i, y)
		}
	}
	for _, s := range []string{"", "a", "123456789", everyByte()} {
		if y := none.Sum(s); y != 0 {
			t.Errorf("Sum(%q) of none: %#x", s, y)
		}
		for _, sum := range []uint32{0, 1, 0xFFFFFFFF} {
			if y := none.More(sum, s); y != 0 {
				t.Errorf("More(%#x, %q) of none: %#x", sum, s, y)
			}
		}
	}
}

// P2.1: two tables have nothing to do with each other.
func TestTwoTables(t *testing.T) {
	x, y := New(), New()
	if x == nil || y == nil || x == y {
		t.Fatal("New answers no table of its own")
	}
	if x.Entry(1) != 0x77073096 || y.entries != [256]uint32{} {
		t.Error("asking the one made the other")
	}
}

// The chapter's Ways: made when it is first asked for, by whichever call, and just once.
func TestMadeOnceWhenAsked(t *testing.T) {
	for name, ask := range map[string]func(*Table){
		"Entry": func(x *Table) { x.Entry(0) },
		"Sum":   func(x *Table) { x.Sum("a") },
		"More":  func(x *Table) { x.More(0, "a") },
	} {
		table := New()
		if table.entries != [256]uint32{} {
			t.Fatal("New has made the table already")
		}
		ask(table)
		for i, e := range table.entries {
			if e != slowByte(uint32(i)) {
				t.Errorf("%s left entry %d as %#x", name, i, e)
			}
		}
		table.entries[7] = 12345
		ask(table)
		if table.Entry(7) != 12345 {
			t.Errorf("%s made the table again", name)
		}
	}
}

// P2.2
func TestOneBehindTheOther(t *testing.T) {
	table := New()
	l := []string{"", "a", "b", "\x00", "\xff\xff\xff\xff", "123456789", "日本", everyByte(), strings.Repeat("xyz", 100)}
	for _, s := range l {
		for _, more := range l {
			if y, want := table.More(table.Sum(s), more), table.Sum(s+more); y != want {
				t.Errorf("More(Sum(%q), %q): %#x, not %#x", s, more, y, want)
			}
		}
	}
}

// P2.2: wherever a text is cut, and if it is cut into single bytes.
func TestCutAnywhere(t *testing.T) {
	table := New()
	for _, s := range []string{"123456789", everyByte()} {
		want, byBytes := table.Sum(s), uint32(0)
		for i := range len(s) {
			if y := table.More(table.Sum(s[:i]), s[i:]); y != want {
				t.Errorf("cut at %d: %#x, not %#x", i, y, want)
			}
			byBytes = table.More(byBytes, s[i:i+1])
		}
		if byBytes != want {
			t.Errorf("byte by byte: %#x, not %#x", byBytes, want)
		}
	}
}

// P2.3
func TestOneBit(t *testing.T) {
	table := New()
	for _, s := range texts() {
		sum := table.Sum(s)
		for bit := range 8 * len(s) {
			b := []byte(s)
			b[bit/8] ^= 1 << (bit % 8)
			if table.Sum(string(b)) == sum {
				t.Errorf("%q has the same sum with its bit %d turned", s, bit)
			}
		}
	}
}

// P2.3: at the ends of a long text, from which the bit goes through the table many times.
func TestOneBitOfALongText(t *testing.T) {
	table := New()
	b := []byte(strings.Repeat(everyByte(), 64))
	sum := table.Sum(string(b))
	for _, at := range []int{0, 1, len(b) / 2, len(b) - 2, len(b) - 1} {
		for bit := range 8 {
			b[at] ^= 1 << bit
			if table.Sum(string(b)) == sum {
				t.Errorf("the same sum with bit %d of byte %d turned", bit, at)
			}
			b[at] ^= 1 << bit
		}
	}
}
