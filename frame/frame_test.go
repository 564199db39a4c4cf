package frame

import (
	"hash/crc32"
	"math"
	"strings"
	"testing"
	"unsafe"

	"tattler/api"
)

// slowEncode follows the chapter's words by dividing, with another's sums.
func slowEncode(f api.Frame) (string, api.Errno) {
	if len(f.Body) > 1048576 {
		return "", api.ErrLong
	}
	if f.Kind == 0 || f.Kind > 14 || f.From > 63 || f.To > 63 {
		return "", api.ErrArg
	}
	b := []byte{1, f.Kind, f.From, f.To}
	b = appendFour(b, len(f.Body))
	b = append(b, f.Body...)
	return string(appendFour(b, int(crc32.ChecksumIEEE(b)))), api.OK
}

func appendFour(b []byte, n int) []byte {
	return append(b, byte(n/16777216), byte(n/65536%256), byte(n/256%256), byte(n%256))
}

// sealed is bytes with their right sum behind them, so that nothing is wrong with them but what they say.
func sealed(s string) string {
	return string(appendFour([]byte(s), int(crc32.ChecksumIEEE([]byte(s)))))
}

// slowDecode is the chapter's row of errors, one behind the other.
func slowDecode(s string) (api.Frame, api.Errno) {
	if len(s) <= 11 {
		return api.Frame{}, api.ErrShort
	}
	if s[0] != 1 || s[1] == 0 || s[1] > 14 || s[2] > 63 || s[3] > 63 {
		return api.Frame{}, api.ErrForm
	}
	says := int(s[4])*16777216 + int(s[5])*65536 + int(s[6])*256 + int(s[7])
	if says > 1048576 {
		return api.Frame{}, api.ErrLong
	}
	if says+12 > len(s) {
		return api.Frame{}, api.ErrShort
	}
	if says+12 < len(s) {
		return api.Frame{}, api.ErrForm
	}
	if sealed(s[:8+says]) != s {
		return api.Frame{}, api.ErrSum
	}
	return api.Frame{Kind: s[1], From: s[2], To: s[3], Body: s[8 : 8+says]}, api.OK
}

// everyByte has each of the 256 bytes once, so it is no valid UTF-8.
func everyByte() string {
	b := make([]byte, 256)
	for i := range b {
		b[i] = byte(i)
	}
	return string(b)
}

func bodies() []string {
	l := []string{"", "a", "ab", "\x00", "\x00\x00\x00\x00", "\r\n", "é", "日本", "\x80\x81", "\xff\xff\xff\xff", everyByte(), everyByte()[128:]}
	for _, n := range []int{255, 257, 1024, 65535, 65536, 65537, 70001} {
		l = append(l, strings.Repeat("k", n), strings.Repeat("\xff", n))
	}
	for i := range 256 {
		l = append(l, string([]byte{byte(i)}))
	}
	return l
}

// shortFrames are some that may be, and whose every bit can be tried.
func shortFrames() []api.Frame {
	l := []api.Frame{{Kind: 5, From: 1, To: 2, Body: "ab"}, {Kind: 1}, {Kind: 14, From: 63, To: 63}, {Kind: 7, From: 0, To: 63, Body: "\x00\xff"},
		{Kind: 8, From: 32, To: 16, Body: everyByte()}, {Kind: 10, From: 21, To: 42, Body: strings.Repeat("\x00", 64)}}
	for kind := range uint8(14) {
		l = append(l, api.Frame{Kind: kind + 1, From: kind, To: kind * 4, Body: "tattler"[kind/2:]})
	}
	return l
}

func encoded(t *testing.T, f api.Frame) string {
	t.Helper()
	s, e := New().Encode(f)
	if e != api.OK {
		t.Fatalf("Encode of kind %d, %d to %d, %d bytes: %d", f.Kind, f.From, f.To, len(f.Body), e)
	}
	return s
}

// short is a text that is fit to be told.
func short(s string) string {
	if len(s) > 40 {
		return s[:40] + ".."
	}
	return s
}

func checkEncode(t *testing.T, c *Codec, f api.Frame) {
	t.Helper()
	s, e := c.Encode(f)
	if want, wantE := slowEncode(f); s != want || e != wantE {
		t.Errorf("Encode of kind %d, %d to %d, %d bytes: %q, %d, not %q, %d", f.Kind, f.From, f.To, len(f.Body), short(s), e, short(want), wantE)
	}
}

func checkDecode(t *testing.T, c *Codec, s string) {
	t.Helper()
	f, e := c.Decode(s)
	if want, wantE := slowDecode(s); f != want || e != wantE {
		t.Errorf("Decode(%q) of %d bytes: kind %d, %d to %d, %d bytes, %d, not %d", short(s), len(s), f.Kind, f.From, f.To, len(f.Body), e, wantE)
	}
}

// refused checks that bytes are answered an error, and nothing beside it.
func refused(t *testing.T, name, s string, want api.Errno) {
	t.Helper()
	if f, e := New().Decode(s); e != want || f != (api.Frame{}) {
		t.Errorf("%s: Decode(%q) of %d bytes: kind %d, %d to %d, %d bytes, %d, not %d", name, short(s), len(s), f.Kind, f.From, f.To, len(f.Body), e, want)
	}
}

// P4.1 and P4.2: the example, and values that were reckoned apart from this program.
func TestFrameValues(t *testing.T) {
	long := strings.Repeat("a", 1<<20)
	c := New()
	for _, x := range []struct {
		f    api.Frame
		want string
	}{
		{api.Frame{Kind: 5, From: 1, To: 2, Body: "ab"}, "\x01\x05\x01\x02\x00\x00\x00\x02ab\xc1\x34\xd9\x4c"},
		{api.Frame{Kind: 1}, "\x01\x01\x00\x00\x00\x00\x00\x00\x0f\xff\xd4\x43"},
		{api.Frame{Kind: 14, From: 63, To: 63}, "\x01\x0e\x3f\x3f\x00\x00\x00\x00\x2f\xea\x3e\x85"},
		{api.Frame{Kind: 14, From: 63, To: 0, Body: "xyz"}, "\x01\x0e\x3f\x00\x00\x00\x00\x03xyz\x43\x32\x9d\x07"},
		{api.Frame{Kind: 7, From: 0, To: 63, Body: "\x00\xff"}, "\x01\x07\x00\x3f\x00\x00\x00\x02\x00\xff\x18\x84\x80\xd9"},
		{api.Frame{Kind: 3, From: 5, To: 5, Body: "日本"}, "\x01\x03\x05\x05\x00\x00\x00\x06\xe6\x97\xa5\xe6\x9c\xac\x0d\x2f\x76\x78"},
		{api.Frame{Kind: 1, Body: "\x00\x00\x00\x00"}, "\x01\x01\x00\x00\x00\x00\x00\x04\x00\x00\x00\x00\xd4\x7e\xf3\x00"},
		{api.Frame{Kind: 9, From: 33, To: 7, Body: everyByte()}, "\x01\x09\x21\x07\x00\x00\x01\x00" + everyByte() + "\xae\x99\x39\x48"},
		{api.Frame{Kind: 4, From: 1, To: 2, Body: long[:65536]}, "\x01\x04\x01\x02\x00\x01\x00\x00" + long[:65536] + "\xae\x55\x83\xf6"},
		{api.Frame{Kind: 14, From: 63, To: 0, Body: long}, "\x01\x0e\x3f\x00\x00\x10\x00\x00" + long + "\x17\x5b\xe7\x90"},
	} {
		if s, e := c.Encode(x.f); s != x.want || e != api.OK {
			t.Errorf("Encode: %q, %d, not %q", short(s), e, short(x.want))
		}
		if f, e := c.Decode(x.want); f != x.f || e != api.OK {
			t.Errorf("Decode(%q): kind %d, %d to %d, %d bytes, %d", short(x.want), f.Kind, f.From, f.To, len(f.Body), e)
		}
	}
}

// P4.1: every kind and every node, those that may not be too; a body that is too long comes ahead of them.
func TestEncodeEveryKindAndNode(t *testing.T) {
	c, tooLong := New(), strings.Repeat("x", 1<<20+1)
	for i := range 256 {
		b := uint8(i)
		for _, body := range []string{"", "ab", tooLong} {
			for _, f := range []api.Frame{{Kind: b}, {Kind: b, From: 64}, {Kind: b, To: 64}, {Kind: 1, From: b}, {Kind: 1, To: b}, {Kind: 14, From: b, To: b}, {From: b}, {To: b}} {
				f.Body = body
				checkEncode(t, c, f)
			}
		}
	}
}

// P4.1
func TestEncodeErrors(t *testing.T) {
	full := strings.Repeat("\xff", 1<<20)
	for _, x := range []struct {
		name string
		f    api.Frame
		want api.Errno
	}{
		{"kind 0", api.Frame{Body: "ab"}, api.ErrArg},
		{"kind 1", api.Frame{Kind: 1, Body: "ab"}, api.OK},
		{"kind 14", api.Frame{Kind: 14, Body: "ab"}, api.OK},
		{"kind 15", api.Frame{Kind: 15, Body: "ab"}, api.ErrArg},
		{"kind 255", api.Frame{Kind: 255, Body: "ab"}, api.ErrArg},
		{"from 63", api.Frame{Kind: 1, From: 63}, api.OK},
		{"from 64", api.Frame{Kind: 1, From: 64}, api.ErrArg},
		{"from 255", api.Frame{Kind: 1, From: 255}, api.ErrArg},
		{"to 63", api.Frame{Kind: 1, To: 63}, api.OK},
		{"to 64", api.Frame{Kind: 1, To: 64}, api.ErrArg},
		{"to 255", api.Frame{Kind: 1, To: 255}, api.ErrArg},
		{"the longest body", api.Frame{Kind: 1, Body: full}, api.OK},
		{"the longest body, kind 0", api.Frame{Body: full}, api.ErrArg},
		{"one byte more", api.Frame{Kind: 1, Body: full + "x"}, api.ErrLong},
		{"one byte more, kind 0", api.Frame{Body: full + "x"}, api.ErrLong},
		{"one byte more, kind 15", api.Frame{Kind: 15, Body: full + "x"}, api.ErrLong},
		{"one byte more, from 64", api.Frame{Kind: 1, From: 64, Body: full + "x"}, api.ErrLong},
		{"one byte more, to 64", api.Frame{Kind: 1, To: 64, Body: full + "x"}, api.ErrLong},
		{"far more", api.Frame{Kind: 1, Body: full + full}, api.ErrLong},
	} {
		s, e := New().Encode(x.f)
		if e != x.want || (e == api.OK) != (len(s) == len(x.f.Body)+12) || e != api.OK && s != "" {
			t.Errorf("%s: %d bytes, %d, not %d", x.name, len(s), e, x.want)
		}
	}
}

// P4.1 and P4.2: bodies with bytes of every value, between each pair of nodes.
func TestEncodeAsSaid(t *testing.T) {
	c := New()
	for i, body := range bodies() {
		f := api.Frame{Kind: uint8(i%14) + 1, From: uint8(i % 64), To: uint8(i / 2 % 64), Body: body}
		checkEncode(t, c, f)
		checkDecode(t, c, encoded(t, f))
	}
	for from := range uint8(64) {
		for to := range uint8(64) {
			f := api.Frame{Kind: from%14 + 1, From: from, To: to, Body: "k"}
			checkEncode(t, c, f)
			checkDecode(t, c, encoded(t, f))
		}
	}
}

// P4.1: the first bytes, each with every value, with the sum that belongs to them, and with another one.
func TestDecodeEveryHead(t *testing.T) {
	c := New()
	for _, head := range []string{"\x01\x05\x01\x02\x00\x00\x00\x02ab", "\x01\x01\x3f\x00\x00\x00\x00\x00", "\x01\x0e\x00\x3f\x00\x00\x01\x00" + everyByte()} {
		for at := range 8 {
			for i := range 256 {
				b := []byte(head)
				b[at] = byte(i)
				checkDecode(t, c, sealed(string(b)))
				checkDecode(t, c, string(b)+"\x00\x00\x00\x00")
				checkDecode(t, c, string(b))
			}
		}
	}
}

// P4.1: each error, with a sum that belongs to the bytes, so that nothing else is wrong.
func TestDecodeErrors(t *testing.T) {
	full := strings.Repeat("z", 1<<20)
	for _, x := range []struct {
		name, s string
		want    api.Errno
	}{
		{"nothing", "", api.ErrShort},
		{"an example", "\x01\x01\x00\x00\x00\x00\x00\x00\x0f\xff\xd4", api.ErrShort},
		{"version 0", sealed("\x00\x05\x01\x02\x00\x00\x00\x02ab"), api.ErrForm},
		{"version 2", sealed("\x02\x05\x01\x02\x00\x00\x00\x02ab"), api.ErrForm},
		{"version 255", sealed("\xff\x05\x01\x02\x00\x00\x00\x02ab"), api.ErrForm},
		{"kind 0", sealed("\x01\x00\x01\x02\x00\x00\x00\x02ab"), api.ErrForm},
		{"kind 15", sealed("\x01\x0f\x01\x02\x00\x00\x00\x02ab"), api.ErrForm},
		{"from 64", sealed("\x01\x05\x40\x02\x00\x00\x00\x02ab"), api.ErrForm},
		{"to 64", sealed("\x01\x05\x01\x40\x00\x00\x00\x02ab"), api.ErrForm},
		{"a longer body than may be", sealed("\x01\x05\x01\x02\x00\x10\x00\x01" + full + "z"), api.ErrLong},
		{"a longer body than may be, by its length alone", sealed("\x01\x05\x01\x02\x00\x10\x00\x01ab"), api.ErrLong},
		{"the longest length of all", sealed("\x01\x05\x01\x02\xff\xff\xff\xffab"), api.ErrLong},
		{"the highest bit of the length", sealed("\x01\x05\x01\x02\x80\x00\x00\x00"), api.ErrLong},
		{"a length whose frame's end would wrap round", sealed("\x01\x05\x01\x02\xff\xff\xff\xf4"), api.ErrLong},
		{"the longest body, and none there", sealed("\x01\x05\x01\x02\x00\x10\x00\x00"), api.ErrShort},
		{"the longest body, but one byte", sealed("\x01\x05\x01\x02\x00\x10\x00\x00" + full[1:]), api.ErrShort},
		{"the longest body, and one byte", sealed("\x01\x05\x01\x02\x00\x10\x00\x00" + full + "z"), api.ErrForm},
		{"it says one byte more", sealed("\x01\x05\x01\x02\x00\x00\x00\x03ab"), api.ErrShort},
		{"it says one byte less", sealed("\x01\x05\x01\x02\x00\x00\x00\x01ab"), api.ErrForm},
		{"it says nothing", sealed("\x01\x05\x01\x02\x00\x00\x00\x00ab"), api.ErrForm},
		{"a length with the lowest byte first", sealed("\x01\x05\x01\x02\x02\x00\x00\x00ab"), api.ErrLong},
		{"no sum", "\x01\x05\x01\x02\x00\x00\x00\x02ab\x00\x00\x00\x00", api.ErrSum},
		{"a sum with the lowest byte first", "\x01\x05\x01\x02\x00\x00\x00\x02ab\x4c\xd9\x34\xc1", api.ErrSum},
		{"the sum with all bits turned", "\x01\x05\x01\x02\x00\x00\x00\x02ab\x3e\xcb\x26\xb3", api.ErrSum},
		{"the body's sum alone", "\x01\x05\x01\x02\x00\x00\x00\x02ab\x9e\x83\x48\x6d", api.ErrSum},
		{"another body's sum", "\x01\x05\x01\x02\x00\x00\x00\x02ba\xc1\x34\xd9\x4c", api.ErrSum},
		{"two frames", encoded(t, api.Frame{Kind: 1}) + encoded(t, api.Frame{Kind: 1}), api.ErrForm},
	} {
		refused(t, x.name, x.s, x.want)
	}
}

// P4.1: several things are wrong, and the one that the chapter names first is answered.
func TestDecodeFirstErrorFirst(t *testing.T) {
	for _, x := range []struct {
		name, s string
		want    api.Errno
	}{
		{"11 bytes, version 2", "\x02\x05\x01\x02\x00\x00\x00\x00\x00\x00\x00", api.ErrShort},
		{"11 bytes, kind 15, nodes 64", "\x01\x0f\x40\x40\x00\x00\x00\x00\x00\x00\x00", api.ErrShort},
		{"11 bytes, too long", "\x01\x05\x01\x02\xff\xff\xff\xff\x00\x00\x00", api.ErrShort},
		{"1 byte, version 2", "\x02", api.ErrShort},
		{"version 2, too long", "\x02\x05\x01\x02\xff\xff\xff\xff\x00\x00\x00\x00", api.ErrForm},
		{"version 2, short", "\x02\x05\x01\x02\x00\x00\x00\x01\x00\x00\x00\x00", api.ErrForm},
		{"version 2, another sum", "\x02\x05\x01\x02\x00\x00\x00\x00\x00\x00\x00\x00", api.ErrForm},
		{"kind 15, too long", "\x01\x0f\x01\x02\xff\xff\xff\xff\x00\x00\x00\x00", api.ErrForm},
		{"kind 0, short", "\x01\x00\x01\x02\x00\x00\x00\x01\x00\x00\x00\x00", api.ErrForm},
		{"from 64, too long", "\x01\x05\x40\x02\x00\x10\x00\x01\x00\x00\x00\x00", api.ErrForm},
		{"from 64, short", "\x01\x05\x40\x02\x00\x00\x00\x01\x00\x00\x00\x00", api.ErrForm},
		{"to 64, too long", "\x01\x05\x01\x40\x00\x10\x00\x01\x00\x00\x00\x00", api.ErrForm},
		{"to 64, another sum", "\x01\x05\x01\x40\x00\x00\x00\x00\x00\x00\x00\x00", api.ErrForm},
		{"too long, and short", "\x01\x05\x01\x02\x00\x10\x00\x01\x00\x00\x00\x00", api.ErrLong},
		{"too long, and more", "\x01\x05\x01\x02\x00\x10\x00\x01" + strings.Repeat("z", 1<<20+6), api.ErrLong},
		{"too long, and another sum", "\x01\x05\x01\x02\x00\x10\x00\x01" + strings.Repeat("z", 1<<20+5), api.ErrLong},
		{"short, and another sum", "\x01\x05\x01\x02\x00\x00\x00\x03ab\x00\x00\x00\x00", api.ErrShort},
		{"more, and another sum", "\x01\x05\x01\x02\x00\x00\x00\x01ab\x00\x00\x00\x00", api.ErrForm},
	} {
		refused(t, x.name, x.s, x.want)
	}
}

// P4.1: cut short at every place, with or without the right sum behind the cut; with more behind it, and ahead of it.
func TestFrameCutAndLengthened(t *testing.T) {
	c := New()
	for _, f := range shortFrames() {
		s := encoded(t, f)
		for end := range len(s) {
			refused(t, "cut short", s[:end], api.ErrShort)
			checkDecode(t, c, sealed(s[:end]))
		}
		for from := 1; from <= len(s); from++ {
			checkDecode(t, c, s[from:])
		}
		for i := range 256 {
			refused(t, "a byte more", s+string([]byte{byte(i)}), api.ErrForm)
		}
		refused(t, "much more", s+everyByte(), api.ErrForm)
		refused(t, "its sum behind it", sealed(s), api.ErrForm)
		checkDecode(t, c, "x"+s)
	}
}

// P4.1: the longest frame, cut short and lengthened by a byte.
func TestLongestFrameCut(t *testing.T) {
	s := encoded(t, api.Frame{Kind: 14, From: 63, To: 63, Body: strings.Repeat("\x00", 1<<20)})
	for _, end := range []int{0, 11, 12, 13, len(s) / 2, len(s) - 5, len(s) - 4, len(s) - 1} {
		refused(t, "cut short", s[:end], api.ErrShort)
	}
	refused(t, "a byte more", s+"\x00", api.ErrForm)
}

// P4.1: nothing is a nil codec's to make or to read, and it ends.
func TestNilCodec(t *testing.T) {
	var none *Codec
	for _, f := range append(shortFrames(), api.Frame{}, api.Frame{Kind: 15}, api.Frame{Kind: 1, From: 64}, api.Frame{Kind: 1, Body: strings.Repeat("x", 1<<20+1)}) {
		if s, e := none.Encode(f); s != "" || e != api.ErrArg {
			t.Errorf("Encode of none: %q, %d, not ErrArg", short(s), e)
		}
	}
	for _, s := range []string{"", "\x02", strings.Repeat("\x00", 11), strings.Repeat("\x02", 12), "\x01\x05\x01\x02\x00\x00\x00\x03ab\x00\x00\x00\x00", encoded(t, api.Frame{Kind: 1}), encoded(t, api.Frame{Kind: 5, From: 1, To: 2, Body: "ab"})} {
		if f, e := none.Decode(s); f != (api.Frame{}) || e != api.ErrArg {
			t.Errorf("Decode(%q) of none: kind %d, %d, not ErrArg", s, f.Kind, e)
		}
	}
}

// P4.1, by R2 and R6: what a codec was asked ahead, right or wrong, doesn't show, and codecs are of their own.
func TestWhateverComesAhead(t *testing.T) {
	c, other := New(), New()
	if c == nil || other == nil || c == other {
		t.Fatal("New answers no codec of its own")
	}
	f := api.Frame{Kind: 5, From: 1, To: 2, Body: "ab"}
	s := encoded(t, f)
	for range 3 {
		c.Encode(api.Frame{Kind: 15, Body: "other"})
		c.Encode(api.Frame{Kind: 14, Body: "other"})
		c.Decode(s[:11])
		c.Decode(s + "x")
		c.Decode(s[:12] + "zz")
		checkEncode(t, c, f)
		checkDecode(t, c, s)
	}
	if f2, e := New().Decode(s); f2 != f || e != api.OK {
		t.Errorf("a codec that is asked to decode first: %d", e)
	}
	checkEncode(t, other, f)
}

// P4.1, by the chapter's New: the codec keeps one table, whatever it is asked.
func TestOneTable(t *testing.T) {
	c := New()
	table := c.table
	for _, f := range shortFrames() {
		s, _ := c.Encode(f)
		c.Decode(s)
	}
	if table == nil || c.table != table {
		t.Error("the codec has another table, or none")
	}
}

// P4.2
func TestFrameThereAndBack(t *testing.T) {
	c := New()
	frames := shortFrames()
	for i, body := range bodies() {
		frames = append(frames, api.Frame{Kind: uint8(i%14) + 1, From: uint8(63 - i%64), To: uint8(i % 64), Body: body})
	}
	frames = append(frames, api.Frame{Kind: 1, Body: strings.Repeat("\xfe", 1<<20)}, api.Frame{Kind: 14, From: 63, To: 63, Body: strings.Repeat("\x00", 1<<20-1)})
	for _, f := range frames {
		if g, e := c.Decode(encoded(t, f)); g != f || e != api.OK {
			t.Errorf("kind %d, %d to %d, %d bytes comes back as kind %d, %d to %d, %d bytes, %d", f.Kind, f.From, f.To, len(f.Body), g.Kind, g.From, g.To, len(g.Body), e)
		}
	}
}

// P4.2: what is decoded of any bytes is encoded as just these.
func TestWhatIsDecodedIsEncoded(t *testing.T) {
	c, found := New(), 0
	check := func(s string) {
		if f, e := c.Decode(s); e == api.OK {
			found++
			if again, e := c.Encode(f); again != s || e != api.OK {
				t.Errorf("%q is decoded, but encoded as %q, %d", short(s), short(again), e)
			}
		}
	}
	for _, body := range []string{"", "a", "ab", "abc", everyByte()} {
		for at := range 8 {
			for i := range 256 {
				b := []byte("\x01\x05\x01\x02\x00\x00\x00" + string([]byte{byte(len(body))}) + body)
				b[at] = byte(i)
				check(sealed(string(b)))
				check(sealed(string(b)) + "x")
			}
		}
	}
	if found == 0 {
		t.Error("nothing was decoded")
	}
}

// P4.3: every bit of every byte: head, length, body and sum.
func TestOneBit(t *testing.T) {
	c := New()
	for _, f := range shortFrames() {
		s := encoded(t, f)
		for bit := range 8 * len(s) {
			b := []byte(s)
			b[bit/8] ^= 1 << (bit % 8)
			if g, e := c.Decode(string(b)); e == api.OK || g != (api.Frame{}) {
				t.Errorf("%q with its bit %d turned: kind %d, %d", short(s), bit, g.Kind, e)
			}
			checkDecode(t, c, string(b))
		}
	}
}

// P4.3: of a long frame, in the head, in the sum, and at places of the body.
func TestOneBitOfALongFrame(t *testing.T) {
	c := New()
	b := []byte(encoded(t, api.Frame{Kind: 12, From: 40, To: 3, Body: strings.Repeat(everyByte(), 4096)}))
	places := []int{8, 9, len(b) / 3, len(b) / 2, len(b) - 6, len(b) - 5, len(b) - 4, len(b) - 3, len(b) - 2, len(b) - 1}
	for at := range 8 {
		places = append(places, at)
	}
	for _, at := range places {
		for bit := range 8 {
			b[at] ^= 1 << bit
			if _, e := c.Decode(string(b)); e == api.OK {
				t.Errorf("bit %d of byte %d turned, and it is decoded", bit, at)
			}
			b[at] ^= 1 << bit
		}
	}
	if _, e := c.Decode(string(b)); e != api.OK {
		t.Errorf("with no bit turned: %d", e)
	}
}

// P4.1: no text makes a call panic, whatever length it says.
func TestAnyBytes(t *testing.T) {
	c := New()
	for _, n := range []uint32{0, 1, 11, 12, 255, 256, 1<<20 - 12, 1 << 20, 1<<20 + 1, 1 << 31, math.MaxInt32, math.MaxUint32 - 11, math.MaxUint32} {
		for size := range 40 {
			head := string(appendFour([]byte("\x01\x05\x01\x02"), int(n)))
			checkDecode(t, c, sealed(head+strings.Repeat("\x01", size)))
		}
	}
	s := strings.Repeat(encoded(t, api.Frame{Kind: 1}), 5) + everyByte()
	for from := range len(s) {
		for to := from; to <= len(s); to++ {
			checkDecode(t, c, s[from:to])
		}
	}
}

// P4.1, by R3: the body that is decoded shares no memory with the bytes, and they stay as they are.
func TestDecodedBodyIsNewMemory(t *testing.T) {
	s := encoded(t, api.Frame{Kind: 5, From: 1, To: 2, Body: "ab"})
	f, _ := New().Decode(s)
	if unsafe.StringData(f.Body) == unsafe.StringData(s[8:]) {
		t.Error("the body is a piece of what it was decoded from")
	}
}
