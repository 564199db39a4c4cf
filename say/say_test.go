package say

import (
	"math"
	"slices"
	"strconv"
	"strings"
	"testing"
	"unsafe"

	"tattler/api"
)

// P9.1, P9.2: the chapter's examples.
func TestExamples(t *testing.T) {
	says(t, "VALUE a 5 2\r\nxy\r\nEND\r\n", value("a", 5, "xy"))
	reads(t, "END\r\n", answer{nil, 5, api.OK})
}

// P9.1, P9.2: no values and no counts at all.
func TestNothing(t *testing.T) {
	if Items(nil) != "END\r\n" || Items([]api.Rec{}) != "END\r\n" {
		t.Errorf("no values: %q, %q", Items(nil), Items([]api.Rec{}))
	}
	if Stats(nil) != "END\r\n" || Stats([]api.Stat{}) != "END\r\n" {
		t.Errorf("no counts: %q, %q", Stats(nil), Stats([]api.Stat{}))
	}
	says(t, "END\r\n")
	reads(t, "", fault(api.ErrShort))
}

// P9.1, P9.2: ordinary rows of values, in their order, one more than once, too.
func TestOrdinaryValues(t *testing.T) {
	says(t, "VALUE some-key 12 5\r\nhello\r\nEND\r\n", value("some-key", 12, "hello"))
	says(t, "VALUE b 0 1\r\nx\r\nVALUE a 1 2\r\nyz\r\nEND\r\n", value("b", 0, "x"), value("a", 1, "yz"))
	says(t, "VALUE a 1 2\r\nyz\r\nVALUE b 0 1\r\nx\r\nEND\r\n", value("a", 1, "yz"), value("b", 0, "x"))
	says(t, "VALUE a 3 1\r\nx\r\nVALUE a 3 1\r\nx\r\nVALUE a 3 1\r\nx\r\nEND\r\n", value("a", 3, "x"), value("a", 3, "x"), value("a", 3, "x"))
	says(t, "VALUE 1 2 3\r\n4 5\r\nEND\r\n", value("1", 2, "4 5"))
	says(t, "VALUE \xff\xc3\xa9\x80 9 4\r\n\x00\xff\x7f \r\nEND\r\n", value("\xff\xc3\xa9\x80", 9, "\x00\xff\x7f "))
	says(t, "VALUE VALUE 0 5\r\nVALUE\r\nVALUE END 0 3\r\nEND\r\nEND\r\n", value("VALUE", 0, "VALUE"), value("END", 0, "END"))
}

// P9.1: ordinary rows of counts, in their order, and counts and names at their edges.
func TestCounts(t *testing.T) {
	for _, x := range []struct {
		text string
		l    []api.Stat
	}{
		{"STAT gets 12\r\nEND\r\n", []api.Stat{{Name: "gets", Value: 12}}},
		{"STAT gets 12\r\nSTAT sets 3\r\nEND\r\n", []api.Stat{{Name: "gets", Value: 12}, {Name: "sets", Value: 3}}},
		{"STAT sets 3\r\nSTAT gets 12\r\nSTAT sets 3\r\nEND\r\n", []api.Stat{{Name: "sets", Value: 3}, {Name: "gets", Value: 12}, {Name: "sets", Value: 3}}},
		{"STAT a 0\r\nEND\r\n", []api.Stat{{Name: "a", Value: 0}}},
		{"STAT a 1\r\nSTAT b 9\r\nSTAT c 10\r\nEND\r\n", []api.Stat{{Name: "a", Value: 1}, {Name: "b", Value: 9}, {Name: "c", Value: 10}}},
		{"STAT a 9223372036854775807\r\nEND\r\n", []api.Stat{{Name: "a", Value: math.MaxInt64}}},
		{"STAT a 9223372036854775808\r\nEND\r\n", []api.Stat{{Name: "a", Value: 1 << 63}}},
		{"STAT a 18446744073709551615\r\nEND\r\n", []api.Stat{{Name: "a", Value: math.MaxUint64}}},
		{"STAT  5\r\nEND\r\n", []api.Stat{{Name: "", Value: 5}}},
		{"STAT a b\r\n\xff\x00% d 5\r\nEND\r\n", []api.Stat{{Name: "a b\r\n\xff\x00% d", Value: 5}}},
		{"STAT END 5\r\nSTAT STAT 6\r\nEND\r\n", []api.Stat{{Name: "END", Value: 5}, {Name: "STAT", Value: 6}}},
		{"STAT " + strings.Repeat("n", 1<<16) + " 5\r\nEND\r\n", []api.Stat{{Name: strings.Repeat("n", 1<<16), Value: 5}}},
	} {
		if got := Stats(x.l); got != x.text {
			t.Errorf("%s: %s, not %s", short(x.l), short(got), short(x.text))
		}
		if got := slowStats(x.l); got != x.text {
			t.Errorf("%s by the reckoning: %s, not %s", short(x.l), short(got), short(x.text))
		}
		isNone(t, strings.TrimSuffix(x.text, "END\r\n"))
	}
}

// P9.1, P9.2: flags at their edges, and how many bytes there are, in as many digits as they need.
func TestNumbersSaid(t *testing.T) {
	for _, flags := range []uint32{0, 1, 9, 10, 11, 99, 100, 1<<31 - 1, 1 << 31, 999999999, 1000000000, 1<<32 - 2, 1<<32 - 1} {
		says(t, "VALUE a "+strconv.FormatUint(uint64(flags), 10)+" 1\r\nx\r\nEND\r\n", value("a", flags, "x"))
	}
	for _, size := range []int{0, 1, 2, 9, 10, 11, 99, 100, 101, 299, 300, 301, 999, 1000, 1023, 1024} {
		for _, letter := range []string{"x", "\r", "\n", "\xff", "\x00", " ", "0"} {
			body := strings.Repeat(letter, size)
			says(t, "VALUE a 4 "+strconv.Itoa(size)+"\r\n"+body+"\r\nEND\r\n", value("a", 4, body))
		}
	}
}

// P9.1, P9.2: bodies that look like the end of their own item, like another item, or like an END.
func TestTrickyBodies(t *testing.T) {
	bodies := []string{
		"\r", "\n", "\r\n", "\n\r", "\r\r", "\n\n", "\r\n\r\n", "END", "END\r", "END\r\n", "\r\nEND", "\r\nEND\r\n", "x\r\nEND\r\n", "END\r\nEND\r\n",
		"VALUE a 0 0\r\n", "VALUE a 0 0\r\n\r\n", "VALUE a 0 0\r\n\r\nEND\r\n", "\r\nVALUE a 0 1\r\nx\r\nEND\r\n", "VALUE", " ", "VALUE b 1 1024\r\n",
		"0", "1\r\n2\r\n3", strings.Repeat("\r\n", 512), strings.Repeat("END\r\n", 204),
	}
	var all []api.Rec
	for i, body := range bodies {
		size := strconv.Itoa(len(body))
		says(t, "VALUE k 0 "+size+"\r\n"+body+"\r\nEND\r\n", value("k", 0, body))
		says(t, "VALUE k 0 "+size+"\r\n"+body+"\r\nVALUE l 1 "+size+"\r\n"+body+"\r\nEND\r\n", value("k", 0, body), value("l", 1, body))
		all = append(all, value("k"+strconv.Itoa(i), uint32(i), body))
	}
	says(t, slowItems(all), all...)
}

// P9.1, P9.2: keys of each length at the bounds; what is read of none, and of one that is too long.
func TestKeyLengths(t *testing.T) {
	for _, letter := range []string{"k", "\xff", "0", "!"} {
		for _, size := range []int{1, 2, 249, 250} {
			key := strings.Repeat(letter, size)
			says(t, "VALUE "+key+" 5 2\r\nxy\r\nEND\r\n", value(key, 5, "xy"))
		}
		for _, size := range []int{0, 251, 252, 280} {
			isNone(t, "VALUE "+strings.Repeat(letter, size)+" 5 2\r\nxy\r\nEND\r\n")
		}
	}
	wide := strings.Repeat("\u00e9", 125)
	says(t, "VALUE "+wide+" 5 2\r\nxy\r\nEND\r\n", value(wide, 5, "xy"))
	isNone(t, "VALUE "+wide+"\u00e9 5 2\r\nxy\r\nEND\r\n", "VALUE "+wide+"k 5 2\r\nxy\r\nEND\r\n")
}

// P9.1, P9.2: every byte that may be in a key and every one that may not, at its front, in its midst and at its end.
func TestKeyBytes(t *testing.T) {
	for b := range 256 {
		letter := string([]byte{byte(b)})
		for _, key := range []string{letter, letter + "k", "k" + letter, "k" + letter + "k"} {
			text := "VALUE " + key + " 5 2\r\nxy\r\nEND\r\n"
			if b > 32 && b != 127 {
				says(t, text, value(key, 5, "xy"))
			} else {
				isNone(t, text)
			}
		}
	}
}

// P9.1: the longest first line that an item has.
func TestLongestItem(t *testing.T) {
	key, body := strings.Repeat("k", 250), strings.Repeat("\n", 1024)
	r := value(key, 1<<32-1, body)
	text := "VALUE " + key + " 4294967295 1024\r\n" + body + "\r\n"
	says(t, text+"END\r\n", r)
	says(t, text+text+text+"END\r\n", r, r, r)
}

// notNumbers is words that aren't numbers as they are said.
func notNumbers() []string {
	return []string{
		"", "00", "01", "001", "0000000001", "00000000000000000000001", "+0", "+1", "-0", "-1", "-", "+", "x", "x1", "1x", "1x1", "0x1", "0b1", "0o1", "1_0", "1.0", "1e1", "1,0",
		".", "\x00", "\x001", "1\x00", "1\t", "\t1", "\xa01", "1\xff", "\u0661", "\uff11", "\u00b2", "/", ":", "1/", "1:", "a", "f", "NaN", "Inf", "18446744073709551616", "18446744073709551617", "99999999999999999999999999",
		strings.Repeat("0", 200), "1" + strings.Repeat("0", 200),
	}
}

// P9.1: words that are no numbers, and numbers that are too great, in the place of flags and of how many bytes there are.
func TestNumbersRead(t *testing.T) {
	for _, word := range notNumbers() {
		isNone(t, "VALUE a "+word+" 1\r\nx\r\nEND\r\n", "VALUE a 1 "+word+"\r\nx\r\nEND\r\n", "VALUE a 1 "+word+"\r\n\r\nEND\r\n", "VALUE a "+word+" "+word+"\r\nx\r\nEND\r\n")
	}
	for _, flags := range []string{"4294967296", "4294967297", "4294967301", "9999999999", "10000000000", "8589934592", "18446744073709551615", "9223372036854775808"} {
		isNone(t, "VALUE a "+flags+" 1\r\nx\r\nEND\r\n")
	}
	for _, size := range []int{1025, 1026, 2048, 2049, 9999, 10000, 65536, 65537, 1<<32 + 1, math.MaxInt64} {
		line := "VALUE a 1 " + strconv.Itoa(size) + "\r\n"
		isNone(t, line, line+"x\r\nEND\r\n", line+strings.Repeat("x", min(size, 1<<10))+"\r\nEND\r\n")
	}
	isNone(t, "VALUE a 1 1025\r\n"+strings.Repeat("x", 1025)+"\r\nEND\r\n")
	for b := range 256 {
		if letter := string([]byte{byte(b)}); !strings.Contains("0123456789", letter) {
			isNone(t, "VALUE a "+letter+" 1\r\nx\r\nEND\r\n", "VALUE a 1"+letter+" 1\r\nx\r\nEND\r\n", "VALUE a "+letter+"1 1\r\nx\r\nEND\r\n")
			isNone(t, "VALUE a 1 "+letter+"\r\nx\r\nEND\r\n", "VALUE a 1 1"+letter+"\r\nx\r\nEND\r\n", "VALUE a 1 "+letter+"1\r\nx\r\nEND\r\n")
		}
	}
}

// P9.1: a word too few and a word too many, and words that are none of an answer's.
func TestWords(t *testing.T) {
	for _, line := range []string{
		"", " ", "x", "VALUE", "VALUE ", "VALUE a", "VALUE a ", "VALUE a 0", "VALUE a 0 ", "VALUE 0 1", "a 0 1", "VALUE a 0 1 1", "VALUE a 0 1 x", "VALUE a b 0 1", "VALUE VALUE a 0 1", "x VALUE a 0 1",
		"value a 0 1", "Value a 0 1", "VALU a 0 1", "ALUE a 0 1", "VALUES a 0 1", "xVALUE a 0 1", "VALUEa 0 1", "VALUE a0 1", "VALUE a 01", "STAT a 1", "STAT a 0 1", "END a 0 1", " a 0 1",
		"end", "End", "EN", "ND", "ENDX", "XEND", "ENDEND", "END END", "END VALUE a 0 1", "VALUE END", "STORED", "DELETED", "TOUCHED", "NOT_FOUND", "ERROR", "VERSION tattler 1", "SERVER_ERROR busy", "\x00", "\xef\xbb\xbfEND",
	} {
		isNone(t, line+"\r\n", line+"\r\nx\r\nEND\r\n", line+"\r\nEND\r\n")
	}
}

// P9.1: two blanks, a blank at either end, and other blanks than byte 32.
func TestBlanks(t *testing.T) {
	words := []string{"VALUE", "a", "5", "1"}
	for gap := range 3 {
		for _, blank := range []string{"", "  ", "   ", "\t", "\t ", " \t", "\v", "\f", "\x00", "\r", "\r ", "\n", " \n", "\u0085", "\u00a0", "\u2003", "\u3000", "\xa0", "\x85"} {
			line := strings.Join(words[:gap+1], " ") + blank + strings.Join(words[gap+1:], " ")
			isNone(t, line+"\r\nx\r\nEND\r\n")
		}
	}
	for _, blank := range []string{" ", "  ", "\t", "\v", "\f", "\x00", "\u0085", "\u00a0", "\xa0", "\x85"} {
		for _, line := range []string{"VALUE a 5 1", "VALUE a 5 0", "END"} {
			isNone(t, blank+line+"\r\nx\r\nEND\r\n", line+blank+"\r\nx\r\nEND\r\n", blank+line+blank+"\r\nx\r\nEND\r\n", line+"\r"+blank+"\nx\r\nEND\r\n")
		}
	}
}

// P9.1: lines that end with a line feed alone, with two returns, with a return in their midst.
func TestLineEnds(t *testing.T) {
	for _, line := range []string{"END", "VALUE a 5 1", "VALUE a 5 0"} {
		for _, end := range []string{"\n", "\r\r\n", "\n\r", "\n\n", "\r\r\r\n", "\r \n", " \r\n", "\rx\n", "x\r\n"} {
			isNone(t, line+end, line+end+"x\r\nEND\r\n", line+end+"\r\nEND\r\n")
		}
		for i := range len(line) {
			isNone(t, line[:i]+"\r"+line[i:]+"\r\nx\r\nEND\r\n", line[:i]+"\r"+line[i:]+"\n", line[:i]+"\n"+line[i:]+"\r\nx\r\nEND\r\n", line[:i]+"\r\n"+line[i:]+"\r\nx\r\nEND\r\n")
		}
	}
	isNone(t, "\n", "\r\n", "\r\r\n", "\n\r\n", "\nEND\r\n", "\r\nEND\r\n")
	for _, s := range []string{"\r", "\r\r", "END", "END\r", "END\r\r", "END\rx", "VALUE a 5 1\r", "VALUE a 5 1025", "VALUE a 00 1", "x", "END ", "VALUE  a", "STAT a 1\r"} {
		reads(t, s, fault(api.ErrShort))
	}
}

// P9.1: bodies that are shorter or longer than their line says, with the text's end in all places.
func TestBodyLengths(t *testing.T) {
	for _, size := range []int{0, 1, 2, 3, 7, 1023, 1024} {
		line := "VALUE a 5 " + strconv.Itoa(size) + "\r\n"
		for _, more := range []int{1, 2, 3, 100} {
			longer := line + strings.Repeat("x", size+more)
			isNone(t, longer, longer+"\r\n", longer+"\r\nEND\r\n")
		}
		reads(t, line+strings.Repeat("x", size), fault(api.ErrShort))
		reads(t, line+strings.Repeat("x", size)+"\r", fault(api.ErrShort))
		reads(t, line+strings.Repeat("x", size)+"\r\n", fault(api.ErrShort))
		if size > 0 {
			shorter := line + strings.Repeat("x", size-1)
			reads(t, shorter, fault(api.ErrShort))
			reads(t, shorter+"\r", fault(api.ErrShort))
			isNone(t, shorter+"\r\n", shorter+"\r\nEND\r\n", shorter+"\r\nVALUE b 0 0\r\n\r\nEND\r\n")
		}
		if size > 1 {
			reads(t, line+strings.Repeat("x", size-2)+"\r\n", fault(api.ErrShort))
			isNone(t, line+strings.Repeat("x", size-2)+"\r\nEND\r\n")
		}
	}
	// What the line says is longer takes up the END, and is then none for what stands behind it, or ends too early.
	reads(t, "VALUE a 5 6\r\nx\r\nEND\r\n", fault(api.ErrShort))
	reads(t, "VALUE a 5 6\r\nx\r\nEND\r\nEND\r\n", answer{[]api.Rec{value("a", 5, "x\r\nEND")}, 26, api.OK})
	reads(t, "VALUE a 5 8\r\nx\r\nEND\r\n", fault(api.ErrShort))
	reads(t, "VALUE a 5 8\r\nx\r\nEND\r\n\r\nEND\r\n", answer{[]api.Rec{value("a", 5, "x\r\nEND\r\n")}, 28, api.OK})
	isNone(t, "VALUE a 5 7\r\nx\r\nEND\r\n", "VALUE a 5 8\r\nx\r\nEND\r\nEND\r\n")
}

// P9.1: a body whose return or line feed is another byte is none, as soon as that byte is there.
func TestBodyEnds(t *testing.T) {
	for _, body := range []string{"", "x", "\r", "\n", "\r\n", strings.Repeat("x", 1024)} {
		head := "VALUE a 5 " + strconv.Itoa(len(body)) + "\r\n" + body
		for b := range 256 {
			letter := string([]byte{byte(b)})
			if letter != "\r" {
				isNone(t, head+letter, head+letter+"\nEND\r\n", head+letter+"\r\nEND\r\n")
			}
			if letter != "\n" {
				isNone(t, head+"\r"+letter, head+"\r"+letter+"END\r\n", head+"\r"+letter+"\r\nEND\r\n")
			}
		}
		isNone(t, head+"END\r\n", head+"\nEND\r\n", head+"\rEND\r\n", head+"\n\rEND\r\n", head+"\r\r\nEND\r\n", head+"\r\n\r\nEND\r\n", head+"\r\n\nEND\r\n")
	}
}

// P9.1: a line of more than 300 bytes is none, whole or not; a shorter one may still become one.
func TestLongLines(t *testing.T) {
	for _, size := range []int{1, 2, 274, 298, 299, 300, 301, 302, 303, 600, 2048, 1 << 16} {
		for _, line := range []string{
			strings.Repeat("x", size), strings.Repeat("\r", size), strings.Repeat("\x00", size), strings.Repeat("END", size)[:size],
			("END" + strings.Repeat(" ", size))[:size], ("VALUE " + strings.Repeat("k", size))[:size], ("VALUE a 0 0" + strings.Repeat(" ", size))[:size],
			("VALUE a " + strings.Repeat("0", size))[:size], ("VALUE a 0 " + strings.Repeat("1", size))[:size], ("VALUE " + strings.Repeat("k", 250) + " 4294967295 1024" + strings.Repeat("\r", size))[:size],
		} {
			if size > 300 {
				isNone(t, line)
			} else {
				reads(t, line, fault(api.ErrShort))
			}
			if size > 10 {
				isNone(t, line+"\n", line+" \n", line+" \r\n", line+" \r\nEND\r\n")
			}
		}
	}
	for _, size := range []int{299, 300, 301, 302} {
		// Neither the bytes ahead of the line nor the item ahead of it are part of it.
		item := "VALUE a 0 1024\r\n" + strings.Repeat("x", 1024) + "\r\n"
		want := fault(api.ErrShort)
		if size > 300 {
			want = fault(api.ErrForm)
		}
		reads(t, item+item+strings.Repeat("y", size), want)
	}
}

// P9.1: the place at all its edges.
func TestPlaces(t *testing.T) {
	texts := []string{"", "x", "END\r\n", "END\r\nEND\r\n", slowItems([]api.Rec{value("a", 5, "xy"), value("b", 6, "\r\nEND\r\n"), value("c", 0, "VALUE d 1 2\r\nzz\r\nEND\r\n")}), strings.Repeat("x", 700) + "END\r\n"}
	for _, s := range texts {
		for _, at := range []int{-1, -2, -len(s), -len(s) - 1, -1 << 31, math.MinInt, math.MinInt + 1, len(s) + 1, len(s) + 2, 2*len(s) + 1, 1 << 31, 1<<32 + 1, math.MaxInt, math.MaxInt - 1} {
			if at >= 0 && at <= len(s) {
				continue
			}
			if got := read(s, at); !same(got, fault(api.ErrArg)) {
				t.Errorf("%s at %d: %s", short(s), at, short(got))
			}
		}
		for at := range len(s) + 1 {
			if got, want := read(s, at), slowRead(s, at); !same(got, want) || want.e == api.ErrArg {
				t.Errorf("%s at %d: %s, not %s", short(s), at, short(got), short(want))
			}
		}
		if got := read(s, len(s)); !same(got, fault(api.ErrShort)) {
			t.Errorf("%s at its end: %s", short(s), short(got))
		}
	}
	for at, want := range map[int]answer{0: {nil, 5, api.OK}, 5: {nil, 10, api.OK}, 10: fault(api.ErrShort), 1: fault(api.ErrForm), 6: fault(api.ErrForm), 11: fault(api.ErrArg)} {
		if got := read("END\r\nEND\r\n", at); !same(got, want) {
			t.Errorf("two ENDs at %d: %s, not %s", at, short(got), short(want))
		}
	}
}

// P9.1: what is said of a record hangs on its key, flags and body alone, and on no bound; what is read has nothing else, and its kind is Value.
func TestOtherFields(t *testing.T) {
	stamp := api.Stamp{Phys: 1, Logical: 2, Node: 3}
	for kind := range 256 {
		l := []api.Rec{{Key: "a", Stamp: stamp, Kind: uint8(kind), Flags: 5, Expiry: 7, Body: "xy"}, {Key: "b", Kind: uint8(kind)}}
		text := "VALUE a 5 2\r\nxy\r\nVALUE b 0 0\r\n\r\nEND\r\n"
		if got := Items(l); got != text {
			t.Errorf("kind %d: %q", kind, got)
		}
		reads(t, Items(l), answer{[]api.Rec{value("a", 5, "xy"), value("b", 0, "")}, len(text), api.OK})
	}
	for _, key := range []string{"", " ", "a b", "\r\n", "\x7f", strings.Repeat("k", 251), strings.Repeat("k", 1000)} {
		text := "VALUE " + key + " 5 2\r\nxy\r\nEND\r\n"
		if got := Items([]api.Rec{value(key, 5, "xy")}); got != text {
			t.Errorf("%s: %s", short(key), short(got))
		}
		isNone(t, text)
	}
	for _, size := range []int{1025, 4096, 1 << 20} {
		text := "VALUE a 5 " + strconv.Itoa(size) + "\r\n" + strings.Repeat("x", size) + "\r\nEND\r\n"
		if got := Items([]api.Rec{value("a", 5, strings.Repeat("x", size))}); got != text {
			t.Errorf("%d bytes: %s", size, short(got))
		}
		isNone(t, text)
	}
}

// P9.1: an answer of very many items, and of very many counts.
func TestVeryMany(t *testing.T) {
	var l []api.Rec
	var counts []api.Stat
	var items, stats strings.Builder
	for i := range 50000 {
		digits := strconv.Itoa(i)
		l = append(l, value("key"+digits, uint32(i), "body"+digits))
		counts = append(counts, api.Stat{Name: "name" + digits, Value: uint64(i)})
		items.WriteString("VALUE key" + digits + " " + digits + " " + strconv.Itoa(4+len(digits)) + "\r\nbody" + digits + "\r\n")
		stats.WriteString("STAT name" + digits + " " + digits + "\r\n")
	}
	text := items.String() + "END\r\n"
	if Items(l) != text {
		t.Error("very many items are not said as they are")
	}
	if got := read("__"+text+"__", 2); !same(got, answer{l, 2 + len(text), api.OK}) {
		t.Errorf("very many items: %d, %d, %d", len(got.l), got.next, got.e)
	}
	if got := read(items.String(), 0); !same(got, fault(api.ErrShort)) {
		t.Errorf("very many items without END: %d, %d, %d", len(got.l), got.next, got.e)
	}
	if got := read(items.String()+"END\n", 0); !same(got, fault(api.ErrForm)) {
		t.Errorf("very many items with a wrong END: %d, %d, %d", len(got.l), got.next, got.e)
	}
	if Stats(counts) != stats.String()+"END\r\n" {
		t.Error("very many counts are not said as they are")
	}
}

// agree lays Read against the reckoning at a place, and what it read against what is said of it.
func agree(t *testing.T, s string, at int) api.Errno {
	t.Helper()
	got, want := read(s, at), slowRead(s, at)
	if !same(got, want) {
		t.Fatalf("%q at %d: %s, not %s", s, at, short(got), short(want))
	}
	if got.e == api.OK && Items(got.l) != s[at:got.next] {
		t.Fatalf("%q at %d: what is read, %s, is not what is said of it", s, at, short(got))
	}
	return got.e
}

// agreeAmong does so with a text alone, and then at its own place with other bytes ahead of it and behind it, which go by turns.
func agreeAmong(t *testing.T, turn int, s string) api.Errno {
	t.Helper()
	a, b := ahead(), behind()
	front, back := a[turn%len(a)], b[turn%len(b)]
	agree(t, front+s+back, len(front))
	return agree(t, s, 0)
}

// P9.1, P9.2: a text with each byte turned to each other one, with each byte put in at each place, and with each one taken off.
func TestEveryByte(t *testing.T) {
	for _, s := range []string{"END\r\n", "VALUE a 10 2\r\nx\r\r\nEND\r\n", "VALUE b 9 1\r\n\n\r\nVALUE c 4294967295 0\r\n\r\nEND\r\n"} {
		for i := range len(s) + 1 {
			for b := range 256 {
				letter := string([]byte{byte(b)})
				agreeAmong(t, i+b, s[:i]+letter+s[i:])
				if i < len(s) {
					agreeAmong(t, i+b, s[:i]+letter+s[i+1:])
				}
			}
			if i < len(s) {
				agreeAmong(t, i, s[:i]+s[i+1:])
			}
		}
	}
}

// P9.1, P9.2: every text of up to six out of nine pieces, and of an item's first line and up to five of them.
func TestEveryShortText(t *testing.T) {
	stock := []string{"VALUE a 1 ", "0", "1", "\r", "\n", "\r\n", "END\r\n", "x", " "}
	seen := map[api.Errno]int{}
	turn, many := 0, 0
	var grow func(s string, left int)
	grow = func(s string, left int) {
		seen[agreeAmong(t, turn, s)]++
		turn++
		if l, _, _ := Read(s, 0); len(l) > 0 {
			many++
		}
		if left > 0 {
			for _, piece := range stock {
				grow(s+piece, left-1)
			}
		}
	}
	grow("", 6)
	for _, line := range []string{"VALUE a 1 0\r\n", "VALUE a 1 1\r\n", "VALUE a 1 2\r\n", "VALUE a 1 5\r\n"} {
		grow(line, 5)
	}
	if seen[api.OK] < 1000 || seen[api.ErrShort] < 1000 || seen[api.ErrForm] < 1000 || many < 1000 {
		t.Errorf("%v, %d with values: the test tells little", seen, many)
	}
}

func (d dice) key() string {
	b := make([]byte, one(d, 1, 1, 2, 5, 249, 250))
	for i := range b {
		for b[i] <= 32 || b[i] == 127 {
			b[i] = one(d, 'k', 'V', '0', byte(d.IntN(256)))
		}
	}
	return one(d, "a", "END", "VALUE", "0", string(b))
}

func (d dice) body() string {
	s := ""
	for range d.IntN(4) {
		s += one(d, "x", "xy", "\r", "\n", "\r\n", "END\r\n", "VALUE a 0 0\r\n", "VALUE a 0 0\r\n\r\nEND\r\n", " ", "0", "\x00\xff", strings.Repeat("z", d.IntN(300)))
	}
	return one(d, s, s, s, strings.Repeat("\n", 1024), strings.Repeat("x", d.IntN(1025)))
}

func (d dice) value() api.Rec {
	return value(d.key(), one(d, 0, 1, 9, 10, 1<<32-1, d.Uint32()), d.body())
}

func (d dice) values() []api.Rec {
	var l []api.Rec
	for range one(d, 0, 1, 1, 2, 3, 8) {
		l = append(l, d.value())
	}
	return l
}

// P9.1, P9.2: many rows of values drawn at random are said as the reckoning says them, and read as they are, wherever they stand; each beginning of that is too short.
func TestManyValues(t *testing.T) {
	d := newDice(1)
	for range 1500 {
		l := d.values()
		text := Items(l)
		if want := slowItems(l); text != want {
			t.Fatalf("%s: %q, not %q", short(l), text, want)
		}
		a, b := one(d, ahead()...), one(d, behind()...)
		if got := read(a+text+b, len(a)); !same(got, answer{l, len(a) + len(text), api.OK}) {
			t.Fatalf("%q behind %q and ahead of %q: %s", text, a, b, short(got))
		}
		for n := range len(text) {
			if got := read(a+text[:n], len(a)); !same(got, fault(api.ErrShort)) {
				t.Fatalf("%d bytes of %q behind %q: %s", n, text, a, short(got))
			}
		}
	}
}

// P9.1: many rows of counts drawn at random are said as the reckoning says them.
func TestManyCounts(t *testing.T) {
	d := newDice(2)
	for range 5000 {
		var l []api.Stat
		for range d.IntN(6) {
			l = append(l, api.Stat{Name: one(d, "", "END", "gets", d.key(), d.body()), Value: one(d, 0, 1, 9, 10, math.MaxUint64, d.Uint64(), d.Uint64()>>d.IntN(64))})
		}
		if got, want := Stats(l), slowStats(l); got != want {
			t.Fatalf("%s: %q, not %q", short(l), got, want)
		}
	}
}

// item is one of a value that may be, or one with something in it that isn't as it should be.
func (d dice) item() string {
	r := d.value()
	words := []string{"VALUE", r.Key, strconv.FormatUint(uint64(r.Flags), 10), strconv.Itoa(len(r.Body))}
	blank, lineEnd, bodyEnd := " ", "\r\n", "\r\n"
	switch d.IntN(40) {
	case 0:
		words[2] = one(d, append(notNumbers(), "4294967296", "4294967301", "9999999999")...)
	case 1:
		words[3] = one(d, append(notNumbers(), "1025", "1026", "4294967296", strconv.Itoa(len(r.Body)+1), strconv.Itoa(d.IntN(1100)))...)
	case 2:
		words[1] = one(d, "", strings.Repeat("k", 251), "\x7f", "a\tb", "\x1f", "a b", "k\r")
	case 3:
		at := d.IntN(4)
		words = slices.Delete(words, at, at+1)
	case 4:
		words = slices.Insert(words, d.IntN(5), one(d, "", "x", "0", "VALUE"))
	case 5:
		blank = one(d, "  ", "\t", "", "\u00a0")
	case 6:
		lineEnd = one(d, "\n", "\r", "\r\r\n", "", " \r\n", "\n\r")
	case 7:
		bodyEnd = one(d, "\n", "\r", "\r\r\n", "", " \r\n", "\n\r")
	}
	return strings.Join(words, blank) + lineEnd + r.Body + bodyEnd
}

// text is items, most of them such as may be, and an END, or what else may stand there; some of its bytes may be turned, put in, taken off or cut off.
func (d dice) text() string {
	s := ""
	for range one(d, 0, 1, 1, 2, 3) {
		s += d.item()
	}
	s += one(d, "END\r\n", "END\r\n", "END\r\n", "END\r\n", "END\r\n", "END\r\n", "END\r\n", "END\r\n", "", "END", "END\r", "END\n", "end\r\n", "END \r\n", "\r\n", "STAT a 1\r\n", strings.Repeat("x", 299+d.IntN(4)), strings.Repeat("x", 299+d.IntN(4))+one(d, "\n", "\r\n"))
	for range one(d, 0, 0, 0, 0, 1, 2) {
		at := d.IntN(len(s) + 1)
		letter := one(d, " ", "0", "1", "\r", "\n", "\r\n", "x", "\x00", "END\r\n")
		switch d.IntN(4) {
		case 0:
			s = s[:at] + letter + s[at:]
		case 1:
			s = s[:at] + letter + s[min(len(s), at+1):]
		case 2:
			s = s[:at] + s[min(len(s), at+1):]
		case 3:
			s = s[:at]
		}
	}
	return s
}

// P9.1, P9.2: many texts drawn at random, at their own place and at others, against the reckoning; what more bytes behind them change is only that they end too early.
func TestManyTexts(t *testing.T) {
	d := newDice(3)
	seen, elsewhere := map[api.Errno]int{}, map[api.Errno]int{}
	for range 40000 {
		a, s, b := one(d, ahead()...), d.text(), one(d, behind()...)
		e := agree(t, a+s, len(a))
		seen[e]++
		more := read(a+s+b, len(a))
		if got := read(a+s, len(a)); e != api.ErrShort && !same(got, more) {
			t.Fatalf("%q behind %q: %s, but ahead of %q: %s", s, a, short(got), b, short(more))
		}
		agree(t, a+s+b, len(a))
		elsewhere[agree(t, a+s+b, d.IntN(len(a+s+b)+9)-4)]++
	}
	if seen[api.OK] < 8000 || seen[api.ErrShort] < 5000 || seen[api.ErrForm] < 8000 || elsewhere[api.ErrArg] < 1000 {
		t.Errorf("%v, and elsewhere %v: the test tells little", seen, elsewhere)
	}
}

// P9.1: each beginning of texts drawn at random, against the reckoning.
func TestEveryBeginning(t *testing.T) {
	d := newDice(4)
	for range 150 {
		s := d.text()
		for n := range len(s) + 1 {
			agreeAmong(t, n, s[:n])
		}
	}
}

// P9.1, P9.2: any bytes at all are answered.
func TestAnyBytes(t *testing.T) {
	d := newDice(5)
	for turn := range 50000 {
		s := one(d, "", "END", "VALUE ", "VALUE a 0 ", "VALUE a 0 3\r\n", "VALUE a 0 1\r\nx", "VALUE a 0 1\r\nx\r\n")
		for range d.IntN(12) {
			s += one(d, "\r", "\n", "\r\n", " ", "0", "1", "a", "END", "VALUE ", string([]byte{byte(d.IntN(256))}))
		}
		agreeAmong(t, turn, s)
		agree(t, s, d.IntN(len(s)+1))
	}
}

// R2, R3: what is handed in stays as it is, its spare room too; what is answered is new memory each time, and hangs on the arguments alone.
func TestMemory(t *testing.T) {
	spare := []api.Rec{value("a", 5, "xy"), value("b", 6, "\r\n"), value("spare", 7, "room")}
	spareCounts := []api.Stat{{Name: "a", Value: 5}, {Name: "spare", Value: 7}}
	oldSpare, oldCounts := slices.Clone(spare), slices.Clone(spareCounts)
	text, counts := Items(spare[:2]), Stats(spareCounts[:1])
	if !slices.Equal(spare, oldSpare) || !slices.Equal(spareCounts, oldCounts) {
		t.Errorf("what was handed in is now %v, %v", spare, spareCounts)
	}
	whole := "__" + text + "__"
	first := read(whole, 2)
	if !same(first, answer{oldSpare[:2], 2 + len(text), api.OK}) {
		t.Fatalf("%q: %s", text, short(first))
	}
	for _, r := range first.l {
		for _, s := range []string{r.Key, r.Body} {
			begin, at := uintptr(unsafe.Pointer(unsafe.StringData(whole))), uintptr(unsafe.Pointer(unsafe.StringData(s)))
			if at >= begin && at < begin+uintptr(len(whole)) {
				t.Errorf("%q is the text's memory", s)
			}
		}
	}
	room := first.l[:cap(first.l)]
	for i := range room {
		room[i] = value("other", 1, "other")
	}
	if again := read(whole, 2); !same(again, answer{oldSpare[:2], 2 + len(text), api.OK}) {
		t.Errorf("%q, again: %s", text, short(again))
	}
	if Items(oldSpare[:2]) != text || Stats(oldCounts[:1]) != counts {
		t.Error("again, another answer")
	}
}
