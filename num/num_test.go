package num

import (
	"math"
	"slices"
	"strings"
	"testing"
	"unsafe"

	"tattler/api"
)

const aboveAll = 1 << 62

// lengths holds the four lengths, and the number behind the greatest that each of them holds.
func lengths() []struct {
	bytes int
	end   uint64
} {
	return []struct {
		bytes int
		end   uint64
	}{{1, 64}, {2, 16384}, {4, 1073741824}, {8, 4611686018427387904}}
}

// slowPut follows the chapter's words by dividing, without shifts.
func slowPut(n uint64) (string, api.Errno) {
	for i, l := range lengths() {
		if n < l.end {
			rest, s := n+uint64(i)*l.end, ""
			for range l.bytes {
				s = string([]byte{byte(rest % 256)}) + s
				rest /= 256
			}
			return s, api.OK
		}
	}
	return "", api.ErrLong
}

// slowGet follows the chapter's words by multiplying, without shifts.
func slowGet(s string, at int) (uint64, int, api.Errno) {
	if at < 0 || at > len(s) {
		return 0, 0, api.ErrArg
	}
	b := []byte(s)[at:]
	if len(b) == 0 {
		return 0, 0, api.ErrShort
	}
	which := int(b[0]) / 64
	if len(b) < lengths()[which].bytes {
		return 0, 0, api.ErrShort
	}
	n := uint64(b[0]) % 64
	for _, x := range b[1:lengths()[which].bytes] {
		n = n*256 + uint64(x)
	}
	for _, l := range lengths()[:which] {
		if n < l.end {
			return 0, 0, api.ErrForm
		}
	}
	return n, at + lengths()[which].bytes, api.OK
}

func slowGetText(s string, at, most int) (string, int, api.Errno) {
	n, next, e := slowGet(s, at)
	if e != api.OK {
		return "", 0, e
	}
	if most < 0 || n > uint64(most) {
		return "", 0, api.ErrLong
	}
	text := ""
	for range n {
		if next == len(s) {
			return "", 0, api.ErrShort
		}
		text += s[next : next+1]
		next++
	}
	return text, next, api.OK
}

// everyByte has each of the 256 bytes once, so it is no valid UTF-8.
func everyByte() string {
	b := make([]byte, 256)
	for i := range b {
		b[i] = byte(i)
	}
	return string(b)
}

// numbers are those below 2^62 about each power of 2, and some between.
func numbers() []uint64 {
	l := []uint64{0, 5, 20000, 0x0123456789ABCDEF, 0x3A5A5A5A5A5A5A5A}
	for bit := range 62 {
		p := uint64(1) << bit
		l = append(l, p-1, p, p+1, p+p/3)
	}
	return append(l, aboveAll-2, aboveAll-1)
}

// tooGreat are numbers from 2^62 on.
func tooGreat() []uint64 {
	return []uint64{aboveAll, aboveAll + 1, aboveAll + 63, aboveAll * 2, aboveAll*2 + 5, aboveAll * 3, math.MaxInt64, math.MaxUint64 - 1, math.MaxUint64}
}

func texts() []string {
	l := []string{"", "a", "abc", "\x00", "\x00\x00", "\r\n", "é", "日本", "\x80\x81", "\xff", everyByte(), everyByte()[128:]}
	for _, n := range []int{62, 63, 64, 65, 250, 1024, 16382, 16383, 16384, 16385, 70000} {
		l = append(l, strings.Repeat("k", n), strings.Repeat("\xff", n))
	}
	for i := range 256 {
		l = append(l, string([]byte{byte(i)}))
	}
	return l
}

func checkGet(t *testing.T, s string, at int) {
	t.Helper()
	n, next, e := Get(s, at)
	wantN, wantNext, wantE := slowGet(s, at)
	if n != wantN || next != wantNext || e != wantE {
		t.Errorf("Get(%q, %d): %#x, %d, %d, not %#x, %d, %d", s, at, n, next, e, wantN, wantNext, wantE)
	}
}

func checkGetText(t *testing.T, s string, at, most int) {
	t.Helper()
	text, next, e := GetText(s, at, most)
	wantText, wantNext, wantE := slowGetText(s, at, most)
	if text != wantText || next != wantNext || e != wantE {
		t.Errorf("GetText(%q, %d, %d): %q, %d, %d, not %q, %d, %d", s, at, most, text, next, e, wantText, wantNext, wantE)
	}
}

// P3.1 and P3.2: the examples, the least and the greatest of each length, and values that were reckoned apart from this program.
func TestNumberValues(t *testing.T) {
	for _, c := range []struct {
		n uint64
		s string
	}{
		{0, "\x00"},
		{1, "\x01"},
		{5, "\x05"},
		{63, "\x3f"},
		{64, "\x40\x40"},
		{65, "\x40\x41"},
		{255, "\x40\xff"},
		{256, "\x41\x00"},
		{16383, "\x7f\xff"},
		{16384, "\x80\x00\x40\x00"},
		{16385, "\x80\x00\x40\x01"},
		{20000, "\x80\x00\x4e\x20"},
		{65535, "\x80\x00\xff\xff"},
		{65536, "\x80\x01\x00\x00"},
		{0x1000000, "\x81\x00\x00\x00"},
		{0x20000001, "\xa0\x00\x00\x01"},
		{0x3fffffff, "\xbf\xff\xff\xff"},
		{0x40000000, "\xc0\x00\x00\x00\x40\x00\x00\x00"},
		{0x40000001, "\xc0\x00\x00\x00\x40\x00\x00\x01"},
		{0xffffffff, "\xc0\x00\x00\x00\xff\xff\xff\xff"},
		{0x100000000, "\xc0\x00\x00\x01\x00\x00\x00\x00"},
		{0xffffffffffff, "\xc0\x00\xff\xff\xff\xff\xff\xff"},
		{0x0123456789abcdef, "\xc1\x23\x45\x67\x89\xab\xcd\xef"},
		{0x2000000000000000, "\xe0\x00\x00\x00\x00\x00\x00\x00"},
		{0x3fffffffffffffff, "\xff\xff\xff\xff\xff\xff\xff\xff"},
	} {
		if s, e := Put(c.n); s != c.s || e != api.OK {
			t.Errorf("Put(%#x): %q, %d, not %q", c.n, s, e, c.s)
		}
		if n, next, e := Get(c.s, 0); n != c.n || next != len(c.s) || e != api.OK {
			t.Errorf("Get(%q, 0): %#x, %d, %d, not %#x", c.s, n, next, e, c.n)
		}
	}
}

// P3.1
func TestPutTooGreat(t *testing.T) {
	for _, n := range tooGreat() {
		if s, e := Put(n); s != "" || e != api.ErrLong {
			t.Errorf("Put(%#x): %q, %d, not ErrLong", n, s, e)
		}
	}
}

// P3.1
func TestPutAsSaid(t *testing.T) {
	check := func(n uint64) {
		s, e := Put(n)
		if want, wantE := slowPut(n); s != want || e != wantE {
			t.Errorf("Put(%#x): %q, %d, not %q, %d", n, s, e, want, wantE)
		}
	}
	for _, n := range slices.Concat(numbers(), tooGreat()) {
		check(n)
	}
	for n := range uint64(70000) {
		check(n)
	}
	for bit := range 64 {
		check(1 << bit)
		check(math.MaxUint64 >> bit)
	}
}

// P3.1: what can't be got; ErrShort stands ahead of ErrForm, and ErrArg ahead of both.
func TestGetErrors(t *testing.T) {
	for _, c := range []struct {
		name, s string
		at      int
		want    api.Errno
	}{
		{"an example", "\x40\x05", 0, api.ErrForm},
		{"an example", "\x40", 0, api.ErrShort},
		{"the end of nothing", "", 0, api.ErrShort},
		{"ahead of nothing", "", -1, api.ErrArg},
		{"behind nothing", "", 1, api.ErrArg},
		{"the end", "\x05", 1, api.ErrShort},
		{"behind the end", "\x05", 2, api.ErrArg},
		{"ahead of the beginning", "\x05", -1, api.ErrArg},
		{"far ahead", "\x05", math.MinInt, api.ErrArg},
		{"far behind", "\x05", math.MaxInt, api.ErrArg},
		{"behind a bad form", "\x40\x05", 3, api.ErrArg},
		{"two of four", "\x80\x00", 0, api.ErrShort},
		{"three of four", "\x80\x00\x00", 0, api.ErrShort},
		{"seven of eight", "\xc0\x00\x00\x00\x00\x00\x00", 0, api.ErrShort},
		{"seven of eight, and something ahead", "x\xc0\x00\x00\x00\x00\x00\x00", 1, api.ErrShort},
		{"one would hold nought, not two", "\x40\x00", 0, api.ErrForm},
		{"one would hold it, not two", "\x40\x3f", 0, api.ErrForm},
		{"one would hold it, not four", "\x80\x00\x00\x3f", 0, api.ErrForm},
		{"two would hold the least, not four", "\x80\x00\x00\x40", 0, api.ErrForm},
		{"two would hold it, not four", "\x80\x00\x3f\xff", 0, api.ErrForm},
		{"one would hold nought, not eight", "\xc0\x00\x00\x00\x00\x00\x00\x00", 0, api.ErrForm},
		{"two would hold it, not eight", "\xc0\x00\x00\x00\x00\x00\x3f\xff", 0, api.ErrForm},
		{"four would hold the least, not eight", "\xc0\x00\x00\x00\x00\x00\x40\x00", 0, api.ErrForm},
		{"four would hold it, not eight", "\xc0\x00\x00\x00\x3f\xff\xff\xff", 0, api.ErrForm},
		{"bad, and more behind it", "\x40\x05\x05\x05", 0, api.ErrForm},
		{"bad, and something good ahead", "\x05\x40\x05", 1, api.ErrForm},
	} {
		if n, next, e := Get(c.s, c.at); n != 0 || next != 0 || e != c.want {
			t.Errorf("%s: Get(%q, %d): %#x, %d, %d, not %d", c.name, c.s, c.at, n, next, e, c.want)
		}
		if text, next, e := GetText(c.s, c.at, math.MaxInt); text != "" || next != 0 || e != c.want {
			t.Errorf("%s: GetText(%q, %d): %q, %d, %d, not %d", c.name, c.s, c.at, text, next, e, c.want)
		}
	}
}

// P3.1 and P3.2: every text of two bytes, alone and with more behind it.
func TestGetOfEveryTwoBytes(t *testing.T) {
	for i := range 65536 {
		two := string([]byte{byte(i / 256), byte(i % 256)})
		for _, s := range []string{two, two + "\x00\x00", two + "\xff\x00\x00\x00\x00\x00", two + "\x00\x00\x00\x40\x00\x00\x01"} {
			checkGet(t, s, 0)
			checkGet(t, s, 1)
			if n, next, e := Get(s, 0); e == api.OK {
				if again, _ := Put(n); again != s[:next] {
					t.Errorf("%q is got as %#x, which is put as %q", s[:next], n, again)
				}
			}
		}
	}
}

// P3.1: from every place of it and about, a text answers as said, cut anywhere.
func TestGetAtEveryPlace(t *testing.T) {
	for _, s := range []string{"", "\x00", everyByte(), "\xc0\x00\x80\x00\x40\x40\x00", strings.Repeat("\xff", 20), strings.Repeat("\x00", 20), strings.Repeat("\x80", 20)} {
		for end := range len(s) + 1 {
			for at := -2; at <= end+2; at++ {
				checkGet(t, s[:end], at)
			}
		}
	}
}

// P3.2: wherever it stands.
func TestNumberThereAndBack(t *testing.T) {
	around := []string{"", "x", "\x00", "\xff", "\x40\x05", everyByte()}
	for _, n := range numbers() {
		s, e := Put(n)
		if e != api.OK {
			t.Fatalf("Put(%#x): %d", n, e)
		}
		for _, ahead := range around {
			for _, behind := range around {
				if m, next, e := Get(ahead+s+behind, len(ahead)); m != n || next != len(ahead+s) || e != api.OK {
					t.Errorf("%#x at %d is got as %#x, %d, %d", n, len(ahead), m, next, e)
				}
			}
		}
	}
}

// P3.1: a number's bytes that are cut short.
func TestNumberCutShort(t *testing.T) {
	for _, n := range numbers() {
		s, _ := Put(n)
		for end := range len(s) {
			for _, ahead := range []string{"", "ab"} {
				if m, next, e := Get(ahead+s[:end], len(ahead)); m != 0 || next != 0 || e != api.ErrShort {
					t.Errorf("%#x, but %d bytes: %#x, %d, %d, not ErrShort", n, end, m, next, e)
				}
			}
		}
	}
}

// P3.2: the same number in more bytes than it is put in is not got.
func TestOneFormOnly(t *testing.T) {
	for _, n := range numbers() {
		put, _ := Put(n)
		for i, l := range lengths() {
			if n >= l.end {
				continue
			}
			rest, b := n+uint64(i)*l.end, make([]byte, l.bytes)
			for j := range b {
				b[l.bytes-1-j] = byte(rest)
				rest /= 256
			}
			want := api.ErrForm
			if string(b) == put {
				want = api.OK
			}
			if _, _, e := Get(string(b), 0); e != want {
				t.Errorf("%#x in %d bytes: %d, not %d", n, l.bytes, e, want)
			}
		}
	}
}

// P3.1
func TestPutTextValues(t *testing.T) {
	for _, c := range []struct{ text, want string }{
		{"", "\x00"},
		{"a", "\x01a"},
		{"abc", "\x03abc"},
		{"\x00", "\x01\x00"},
		{"é", "\x02\xc3\xa9"},
		{"\xff\xfe", "\x02\xff\xfe"},
		{strings.Repeat("k", 63), "\x3f" + strings.Repeat("k", 63)},
		{strings.Repeat("k", 64), "\x40\x40" + strings.Repeat("k", 64)},
		{everyByte(), "\x41\x00" + everyByte()},
		{strings.Repeat("k", 16383), "\x7f\xff" + strings.Repeat("k", 16383)},
		{strings.Repeat("k", 16384), "\x80\x00\x40\x00" + strings.Repeat("k", 16384)},
		{strings.Repeat("k", 1<<20), "\x80\x10\x00\x00" + strings.Repeat("k", 1<<20)},
	} {
		if s := PutText(c.text); s != c.want {
			t.Errorf("PutText of %d bytes is wrong: %d bytes", len(c.text), len(s))
		}
	}
}

// P3.1
func TestGetTextValues(t *testing.T) {
	for _, c := range []struct {
		s        string
		at, most int
		text     string
		next     int
		want     api.Errno
	}{
		{"\x00", 0, 0, "", 1, api.OK},
		{"\x00", 0, 1, "", 1, api.OK},
		{"\x00", 0, -1, "", 0, api.ErrLong},
		{"\x00", 0, math.MinInt, "", 0, api.ErrLong},
		{"\x00", 0, math.MaxInt, "", 1, api.OK},
		{"\x03abcd", 0, 3, "abc", 4, api.OK},
		{"\x03abcd", 0, 4, "abc", 4, api.OK},
		{"\x03abcd", 0, 2, "", 0, api.ErrLong},
		{"\x03abcd", 0, 0, "", 0, api.ErrLong},
		{"\x03abcd", 0, -1, "", 0, api.ErrLong},
		{"\x03abc", 0, math.MaxInt, "abc", 4, api.OK},
		{"\x03ab", 0, 3, "", 0, api.ErrShort},
		{"\x03", 0, 3, "", 0, api.ErrShort},
		{"\x03ab", 0, 2, "", 0, api.ErrLong},
		{"\x03ab", 0, -1, "", 0, api.ErrLong},
		{"zz\x02\x00\xffz", 2, 2, "\x00\xff", 5, api.OK},
		{"zz\x02\x00", 2, 2, "", 0, api.ErrShort},
		{"zz\x02\x00\xffz", 2, 1, "", 0, api.ErrLong},
		{"zz\x00", 2, 5, "", 3, api.OK},
		{"", 0, 5, "", 0, api.ErrShort},
		{"", 0, -1, "", 0, api.ErrShort},
		{"", -1, -1, "", 0, api.ErrArg},
		{"", 1, -1, "", 0, api.ErrArg},
		{"\x01a", 2, 5, "", 0, api.ErrShort},
		{"\x01a", 3, 5, "", 0, api.ErrArg},
		{"\x01a", -1, 5, "", 0, api.ErrArg},
		{"\x40\x05abcde", 0, 5, "", 0, api.ErrForm},
		{"\x40\x05abcde", 0, -1, "", 0, api.ErrForm},
		{"\x40", 0, -1, "", 0, api.ErrShort},
		{"\xff\xff\xff\xff\xff\xff\xff\xff", 0, math.MaxInt, "", 0, api.ErrShort},
		{"\xff\xff\xff\xff\xff\xff\xff\xffabc", 0, 1<<62 - 1, "", 0, api.ErrShort},
		{"\xff\xff\xff\xff\xff\xff\xff\xffabc", 0, 1<<62 - 2, "", 0, api.ErrLong},
		{"\xff\xff\xff\xff\xff\xff\xff\xffabc", 0, -1, "", 0, api.ErrLong},
	} {
		if text, next, e := GetText(c.s, c.at, c.most); text != c.text || next != c.next || e != c.want {
			t.Errorf("GetText(%q, %d, %d): %q, %d, %d, not %q, %d, %d", c.s, c.at, c.most, text, next, e, c.text, c.next, c.want)
		}
	}
}

// P3.1: from every place of some texts and about, cut anywhere, with each most.
func TestGetTextAtEveryPlace(t *testing.T) {
	mosts := []int{math.MinInt, -1, 0, 1, 2, 3, 4, 5, 63, 64, 65, 255, 256, 257, math.MaxInt}
	for _, s := range []string{"", "\x03abcd", "\x00\x01\x02\x03\x04\x05", "\x40\x40" + strings.Repeat("\xbf", 70), "\xc0\x00\x80\x00\x40\x40\x00", PutText("日本")} {
		for end := range len(s) + 1 {
			for at := -2; at <= end+2; at++ {
				for _, most := range mosts {
					checkGetText(t, s[:end], at, most)
				}
			}
		}
	}
	for at := range 256 {
		for _, most := range mosts {
			checkGetText(t, everyByte(), at, most)
		}
	}
}

// P3.1 and P3.2: wherever it stands, with most at its length and just below, and cut short.
func TestTextThereAndBack(t *testing.T) {
	around := []string{"", "x", "\xff\x00", everyByte()}
	for _, text := range texts() {
		s := PutText(text)
		for _, ahead := range around {
			for _, behind := range around {
				all, next := ahead+s+behind, len(ahead+s)
				if got, at, e := GetText(all, len(ahead), len(text)); got != text || at != next || e != api.OK {
					t.Errorf("a text of %d bytes at %d is got with %d bytes, %d, %d", len(text), len(ahead), len(got), at, e)
				}
				if got, at, e := GetText(all, len(ahead), len(text)-1); got != "" || at != 0 || e != api.ErrLong {
					t.Errorf("a text of %d bytes, most one less: %d bytes, %d, %d, not ErrLong", len(text), len(got), at, e)
				}
			}
			if got, at, e := GetText(ahead+s[:len(s)-1], len(ahead), len(text)); got != "" || at != 0 || e != api.ErrShort {
				t.Errorf("a text of %d bytes, cut short: %d bytes, %d, %d, not ErrShort", len(text), len(got), at, e)
			}
		}
	}
}

// P3.2: what is got of any bytes is put as just these.
func TestWhatIsGotIsPut(t *testing.T) {
	s := everyByte() + strings.Repeat("\x00\x41\x00\x80\x01\x00\x00", 50) + everyByte()
	numbers, texts := 0, 0
	for at := range len(s) {
		if n, next, e := Get(s, at); e == api.OK {
			numbers++
			if again, _ := Put(n); again != s[at:next] {
				t.Errorf("%q is got as %#x, which is put as %q", s[at:next], n, again)
			}
		}
		if text, next, e := GetText(s, at, len(s)); e == api.OK {
			texts++
			if again := PutText(text); again != s[at:next] {
				t.Errorf("%q is got as %q, which is put as %q", s[at:next], text, again)
			}
		}
	}
	if numbers == 0 || texts == 0 {
		t.Error("nothing was got")
	}
}

// P3.2: numbers and texts in a row are got one behind the other, each from where the last one ended.
func TestInARow(t *testing.T) {
	var row strings.Builder
	for i, n := range numbers() {
		s, _ := Put(n)
		row.WriteString(s + PutText(texts()[i]))
	}
	at := 0
	for i, want := range numbers() {
		n, next, e := Get(row.String(), at)
		if n != want || e != api.OK {
			t.Fatalf("number %d of the row: %#x, %d, not %#x", i, n, e, want)
		}
		text, next, e := GetText(row.String(), next, math.MaxInt)
		if text != texts()[i] || e != api.OK {
			t.Fatalf("text %d of the row: %d bytes, %d", i, len(text), e)
		}
		at = next
	}
	if _, _, e := Get(row.String(), at); at != row.Len() || e != api.ErrShort {
		t.Errorf("the row ends at %d, not %d, with %d", at, row.Len(), e)
	}
}

// P3.1, by R3: the text that is got shares no memory with what it was got from.
func TestGotTextIsNewMemory(t *testing.T) {
	s := PutText("abc")
	text, _, _ := GetText(s, 0, 3)
	if unsafe.StringData(text) == unsafe.StringData(s[1:]) {
		t.Error("the text is a piece of what it was got from")
	}
}
