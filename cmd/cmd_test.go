package cmd

import (
	"math/rand/v2"
	"reflect"
	"regexp"
	"slices"
	"strconv"
	"strings"
	"testing"
	"unsafe"

	"tattler/api"
)

// The replies, written out apart from the program's.
const (
	sayError  = "ERROR\r\n"
	sayFormat = "CLIENT_ERROR bad command line format\r\n"
	sayLarge  = "SERVER_ERROR object too large for cache\r\n"
)

// answer is all that a call answers.
type answer struct {
	c    api.Cmd
	data int
}

// The lines' shapes, for lines whose bytes were made one rune each. Keys are held to their length, numbers to their size, apart.
var (
	firstShape  = regexp.MustCompile(`^ *(get|set|delete|touch|stats|version|quit)(?: |$)`)
	getShape    = regexp.MustCompile(`^ *get((?: +[!-~\x{80}-\x{ff}]+){1,16}) *$`)
	setShape    = regexp.MustCompile(`^ *set +([!-~\x{80}-\x{ff}]{1,250}) +([0-9]{1,10}) +(-?[0-9]{1,10}) +([0-9]{1,10})( +noreply)? *$`)
	deleteShape = regexp.MustCompile(`^ *delete +([!-~\x{80}-\x{ff}]{1,250})( +noreply)? *$`)
	touchShape  = regexp.MustCompile(`^ *touch +([!-~\x{80}-\x{ff}]{1,250}) +(-?[0-9]{1,10})( +noreply)? *$`)
	aloneShape  = regexp.MustCompile(`^ *(?:stats|version|quit) *$`)
	dataShape   = regexp.MustCompile(`^ *set(?: +[^ ]+){3} +([0-9]{1,10})(?: +[^ ]+)? *$`)
)

func wide(s string) string {
	var l []rune
	for _, b := range []byte(s) {
		l = append(l, rune(b))
	}
	return string(l)
}

func narrow(s string) string {
	var l []byte
	for _, r := range s {
		l = append(l, byte(r))
	}
	return string(l)
}

// slowAmount is an amount's size; what isn't one has -1.
func slowAmount(s string) int {
	n, err := strconv.ParseUint(s, 10, 32)
	if err != nil {
		return -1
	}
	return int(n)
}

func slowTime(s string) int64 {
	n, err := strconv.ParseInt(s, 10, 64)
	if err != nil {
		panic(err)
	}
	return n
}

// slowParse holds a line against the shapes of the chapter's table.
func slowParse(line string) answer {
	line = wide(line)
	first := firstShape.FindStringSubmatch(line)
	if first == nil {
		return answer{api.Cmd{Kind: 8, Reply: sayError}, -1}
	}
	data := -1
	if m := dataShape.FindStringSubmatch(line); m != nil {
		data = slowAmount(m[1])
	}
	wrong := answer{api.Cmd{Kind: 8, Reply: sayFormat}, data}
	switch first[1] {
	case "get":
		return slowGet(line, wrong)
	case "set":
		m := setShape.FindStringSubmatch(line)
		if m == nil || slowAmount(m[2]) < 0 || slowAmount(m[4]) < 0 {
			return wrong
		}
		if data > 1024 {
			return answer{api.Cmd{Kind: 8, Reply: sayLarge}, data}
		}
		return answer{api.Cmd{Kind: 2, Keys: []string{narrow(m[1])}, Flags: uint32(slowAmount(m[2])), Exptime: slowTime(m[3]), Quiet: m[5] != ""}, data}
	case "delete":
		if m := deleteShape.FindStringSubmatch(line); m != nil {
			return answer{api.Cmd{Kind: 3, Keys: []string{narrow(m[1])}, Quiet: m[2] != ""}, -1}
		}
	case "touch":
		if m := touchShape.FindStringSubmatch(line); m != nil {
			return answer{api.Cmd{Kind: 4, Keys: []string{narrow(m[1])}, Exptime: slowTime(m[2]), Quiet: m[3] != ""}, -1}
		}
	default:
		if aloneShape.MatchString(line) {
			return answer{api.Cmd{Kind: map[string]int{"stats": 5, "version": 6, "quit": 7}[first[1]]}, -1}
		}
	}
	return wrong
}

func slowGet(line string, wrong answer) answer {
	m := getShape.FindStringSubmatch(line)
	if m == nil {
		return wrong
	}
	var keys []string
	for _, key := range regexp.MustCompile(`[^ ]+`).FindAllString(m[1], -1) {
		if len(narrow(key)) > 250 {
			return wrong
		}
		keys = append(keys, narrow(key))
	}
	return answer{api.Cmd{Kind: 1, Keys: keys}, -1}
}

func same(a, b answer) bool {
	if !slices.Equal(a.c.Keys, b.c.Keys) || a.data != b.data {
		return false
	}
	a.c.Keys, b.c.Keys = nil, nil
	return reflect.DeepEqual(a.c, b.c)
}

func parse(line string) answer {
	c, data := Parse(line)
	return answer{c, data}
}

// spaced is the same words with blanks between and at the ends: one and many, all alike and each otherwise.
func spaced(words []string) []string {
	lines := []string{strings.Join(words, " ")}
	for _, n := range []int{1, 2, 7, 300} {
		gap := strings.Repeat(" ", n)
		lines = append(lines, strings.Join(words, gap), gap+strings.Join(words, " "), strings.Join(words, " ")+gap, gap+strings.Join(words, gap)+gap)
	}
	uneven := "   "
	for i, word := range words {
		uneven += word + strings.Repeat(" ", 1+(i*3+2)%5)
	}
	return append(lines, uneven)
}

// holds lays a line, with any blanks between its words, against what it is to say.
func holds(t *testing.T, want answer, words ...string) {
	t.Helper()
	for _, line := range spaced(words) {
		if got := parse(line); !same(got, want) {
			t.Errorf("%.400q: %+v %d, not %+v %d", line, got.c, got.data, want.c, want.data)
		}
	}
}

// says does so, and lays what it is to say against the reckoning apart, too.
func says(t *testing.T, want answer, words ...string) {
	t.Helper()
	holds(t, want, words...)
	for _, line := range spaced(words) {
		if got := slowParse(line); !same(got, want) {
			t.Errorf("%.400q by the reckoning: %+v %d, not %+v %d", line, got.c, got.data, want.c, want.data)
		}
	}
}

// words cuts a line that has just one blank between two words.
func words(line string) []string { return strings.Split(line, " ") }

func wrong(data int) answer { return answer{api.Cmd{Kind: api.CmdBad, Reply: sayFormat}, data} }

func unheard() answer { return answer{api.Cmd{Kind: api.CmdBad, Reply: sayError}, -1} }

func large(data int) answer { return answer{api.Cmd{Kind: api.CmdBad, Reply: sayLarge}, data} }

func gets(keys ...string) answer { return answer{api.Cmd{Kind: api.CmdGet, Keys: keys}, -1} }

func sets(key string, flags uint32, exptime int64, quiet bool, data int) answer {
	return answer{api.Cmd{Kind: api.CmdSet, Keys: []string{key}, Flags: flags, Exptime: exptime, Quiet: quiet}, data}
}

func deletes(key string, quiet bool) answer {
	return answer{api.Cmd{Kind: api.CmdDelete, Keys: []string{key}, Quiet: quiet}, -1}
}

func touches(key string, exptime int64, quiet bool) answer {
	return answer{api.Cmd{Kind: api.CmdTouch, Keys: []string{key}, Exptime: exptime, Quiet: quiet}, -1}
}

func plain(kind int) answer { return answer{api.Cmd{Kind: kind}, -1} }

// P7.1, P7.2: the chapter's examples.
func TestExamples(t *testing.T) {
	says(t, gets("a", "b"), words("get a b")...)
	says(t, sets("a", 1, -5, true, 3), words("set a 1 -5 3 noreply")...)
	says(t, unheard(), words("gets a")...)
	says(t, wrong(3), words("set a x 0 3")...)
	says(t, wrong(-1), "delete")
}

// P7.1, P7.2: ordinary lines of each of the seven first words.
func TestOrdinaryLines(t *testing.T) {
	for line, want := range map[string]answer{
		"get a":                       gets("a"),
		"get some-key other:key a":    gets("some-key", "other:key", "a"),
		"get a a a":                   gets("a", "a", "a"),
		"get b a":                     gets("b", "a"),
		"get get set":                 gets("get", "set"),
		"set a 0 0 5":                 sets("a", 0, 0, false, 5),
		"set a 0 0 5 noreply":         sets("a", 0, 0, true, 5),
		"set some-key 12 3600 1024":   sets("some-key", 12, 3600, false, 1024),
		"set 1 2 3 4":                 sets("1", 2, 3, false, 4),
		"delete a":                    deletes("a", false),
		"delete a noreply":            deletes("a", true),
		"touch a 9":                   touches("a", 9, false),
		"touch a -9":                  touches("a", -9, false),
		"touch a 9 noreply":           touches("a", 9, true),
		"stats":                       plain(api.CmdStats),
		"version":                     plain(api.CmdVersion),
		"quit":                        plain(api.CmdQuit),
		"set \u00e9 1 2 3":            sets("\u00e9", 1, 2, false, 3),
		"get \xff\xfe \xc3 \u2003":    gets("\xff\xfe", "\xc3", "\u2003"),
		"delete a\u00a0b":             deletes("a\u00a0b", false),
		"touch \x80 1":                touches("\x80", 1, false),
		"set a 4294967295 0 0":        sets("a", 4294967295, 0, false, 0),
		"set a 4294967295 -0 1":       sets("a", 4294967295, 0, false, 1),
		"set a 0 -9999999999 1024":    sets("a", 0, -9999999999, false, 1024),
		"set a 0 9999999999 1024":     sets("a", 0, 9999999999, false, 1024),
		"touch a -0000000001 noreply": touches("a", -1, true),
	} {
		says(t, want, words(line)...)
	}
}

// P7.1, P7.2: a line with no word.
func TestNoWord(t *testing.T) {
	for n := range 70 {
		if got := parse(strings.Repeat(" ", n)); !same(got, unheard()) {
			t.Errorf("%d blanks: %+v", n, got)
		}
	}
	if got := parse(strings.Repeat(" ", 1<<20)); !same(got, unheard()) {
		t.Errorf("very many blanks: %+v", got)
	}
}

// rest is what stands behind each of the seven first words in a line that says something.
func rest(first string) []string {
	return map[string][]string{"get": {"a"}, "set": {"a", "1", "2", "3"}, "delete": {"a"}, "touch": {"a", "2"}, "stats": {}, "version": {}, "quit": {}}[first]
}

var firsts = []string{"get", "set", "delete", "touch", "stats", "version", "quit"}

// P7.1, P7.2: first words that aren't quite one of the seven: in capitals, with a byte more, with a byte less, with one turned.
func TestFirstWords(t *testing.T) {
	for _, first := range firsts {
		if got := parse(strings.Join(append([]string{first}, rest(first)...), " ")); got.c.Kind == api.CmdBad {
			t.Errorf("%s: %+v", first, got)
		}
		near := []string{strings.ToUpper(first), strings.ToUpper(first[:1]) + first[1:], first[1:], first[:len(first)-1], first + first, "\ufeff" + first}
		for i := range first {
			near = append(near, first[:i]+strings.ToUpper(first[i:i+1])+first[i+1:], first[:i]+first[i+1:])
		}
		for b := range 256 {
			if b != ' ' {
				near = append(near, first+string([]byte{byte(b)}), string([]byte{byte(b)})+first)
			}
		}
		for _, word := range near {
			for _, line := range [][]string{{word}, append([]string{word}, rest(first)...), append([]string{word}, rest("set")...)} {
				holds(t, unheard(), line...)
			}
		}
		for _, word := range []string{strings.ToUpper(first), first + "x", first[1:]} {
			says(t, unheard(), append([]string{word}, rest(first)...)...)
		}
	}
	for _, word := range []string{"a", "0", "noreply", "add", "replace", "cas", "incr", "ERROR", "-", "\x00", "\xff", "\r", "getset", "bad"} {
		says(t, unheard(), word)
		says(t, unheard(), word, "set", "a", "0", "0", "3")
	}
	says(t, unheard(), words("a set")...)
	says(t, unheard(), words("a get b")...)
}

// P7.1, P7.2: a get has from 1 to MaxKeys keys.
func TestGetHowMany(t *testing.T) {
	for n := range 40 {
		line := []string{"get"}
		for i := range n {
			line = append(line, "k"+strconv.Itoa(i))
		}
		if n < 1 || n > 16 {
			says(t, wrong(-1), line...)
		} else {
			says(t, gets(line[1:]...), line...)
		}
	}
	says(t, wrong(-1), append([]string{"get"}, slices.Repeat([]string{"a"}, 1000)...)...)
}

// keyLines is each line with a key, with that one in its place, and what it says if the key may be and if it may not.
func keyLines(key string) []struct {
	line     []string
	may, not answer
} {
	return []struct {
		line     []string
		may, not answer
	}{
		{[]string{"get", key}, gets(key), wrong(-1)},
		{[]string{"get", key, "b", "c"}, gets(key, "b", "c"), wrong(-1)},
		{[]string{"get", "a", key, "c"}, gets("a", key, "c"), wrong(-1)},
		{[]string{"get", "a", "b", key}, gets("a", "b", key), wrong(-1)},
		{append(append([]string{"get"}, slices.Repeat([]string{"a"}, 15)...), key), gets(append(slices.Repeat([]string{"a"}, 15), key)...), wrong(-1)},
		{[]string{"set", key, "1", "-2", "3"}, sets(key, 1, -2, false, 3), wrong(3)},
		{[]string{"set", key, "1", "2", "1024", "noreply"}, sets(key, 1, 2, true, 1024), wrong(1024)},
		{[]string{"set", key, "1", "2", "1025"}, large(1025), wrong(1025)},
		{[]string{"delete", key}, deletes(key, false), wrong(-1)},
		{[]string{"delete", key, "noreply"}, deletes(key, true), wrong(-1)},
		{[]string{"touch", key, "5"}, touches(key, 5, false), wrong(-1)},
		{[]string{"touch", key, "-5", "noreply"}, touches(key, -5, true), wrong(-1)},
	}
}

// P7.1, P7.2: keys of each length at the bounds, in each place of a key.
func TestKeyLengths(t *testing.T) {
	for _, size := range []int{1, 2, 249, 250, 251, 252, 1000} {
		for _, letter := range []string{"k", "\xff"} {
			key := strings.Repeat(letter, size)
			for _, x := range keyLines(key) {
				if size <= 250 {
					says(t, x.may, x.line...)
				} else {
					says(t, x.not, x.line...)
				}
			}
		}
	}
	for n, may := range map[int]bool{125: true, 126: false} {
		for _, x := range keyLines(strings.Repeat("\u00e9", n)) {
			if may {
				says(t, x.may, x.line...)
			} else {
				says(t, x.not, x.line...)
			}
		}
	}
}

// P7.1, P7.2: every byte that may be in a key and every one that may not, at its front, in its midst and at its end.
func TestKeyBytes(t *testing.T) {
	for b := range 256 {
		if b == ' ' {
			continue
		}
		byteText := string([]byte{byte(b)})
		for _, key := range []string{byteText, byteText + "k", "k" + byteText, "k" + byteText + "k"} {
			for _, x := range keyLines(key) {
				want := x.not
				if b > 32 && b != 127 {
					want = x.may
				}
				holds(t, want, x.line...)
			}
		}
	}
}

// aNumber is a word in the place of a number, and what it is as an amount and as a time.
type aNumber struct {
	word   string
	amount int
	isTime bool
	time   int64
}

// numbers is each edge of what a number, an amount and a time are; -1 tells that it is no amount.
func numbers() []aNumber {
	return []aNumber{
		{"0", 0, true, 0},
		{"1", 1, true, 1},
		{"9", 9, true, 9},
		{"10", 10, true, 10},
		{"00", 0, true, 0},
		{"007", 7, true, 7},
		{"0000000007", 7, true, 7},
		{"0000000000", 0, true, 0},
		{"1000000000", 1000000000, true, 1000000000},
		{"1234567890", 1234567890, true, 1234567890},
		{"1023", 1023, true, 1023},
		{"1024", 1024, true, 1024},
		{"0000001024", 1024, true, 1024},
		{"1025", 1025, true, 1025},
		{"0000001025", 1025, true, 1025},
		{"2147483647", 2147483647, true, 2147483647},
		{"2147483648", 2147483648, true, 2147483648},
		{"4294967294", 4294967294, true, 4294967294},
		{"4294967295", 4294967295, true, 4294967295},
		{"4294967296", -1, true, 4294967296},
		{"4294967297", -1, true, 4294967297},
		{"9999999999", -1, true, 9999999999},
		{"-0", -1, true, 0},
		{"-1", -1, true, -1},
		{"-5", -1, true, -5},
		{"-007", -1, true, -7},
		{"-0000000000", -1, true, 0},
		{"-0000000001", -1, true, -1},
		{"-4294967295", -1, true, -4294967295},
		{"-4294967296", -1, true, -4294967296},
		{"-9999999999", -1, true, -9999999999},
		{"00000000000", -1, false, 0},
		{"00000000001", -1, false, 0},
		{"10000000000", -1, false, 0},
		{"04294967295", -1, false, 0},
		{"18446744073709551617", -1, false, 0},
		{"-00000000000", -1, false, 0},
		{"-10000000000", -1, false, 0},
		{"-", -1, false, 0},
		{"--", -1, false, 0},
		{"--1", -1, false, 0},
		{"-+1", -1, false, 0},
		{"1-", -1, false, 0},
		{"1-1", -1, false, 0},
		{"+1", -1, false, 0},
		{"+-1", -1, false, 0},
		{"+0", -1, false, 0},
		{"+", -1, false, 0},
		{"x", -1, false, 0},
		{"x12", -1, false, 0},
		{"1x2", -1, false, 0},
		{"12x", -1, false, 0},
		{"-x12", -1, false, 0},
		{"-1x2", -1, false, 0},
		{"-12x", -1, false, 0},
		{"0x1", -1, false, 0},
		{"0b1", -1, false, 0},
		{"0o7", -1, false, 0},
		{"1_0", -1, false, 0},
		{"1e3", -1, false, 0},
		{"1.0", -1, false, 0},
		{"1,0", -1, false, 0},
		{"a", -1, false, 0},
		{"noreply", -1, false, 0},
		{"/", -1, false, 0},
		{":", -1, false, 0},
		{"12\r", -1, false, 0},
		{"\t12", -1, false, 0},
		{"1\n2", -1, false, 0},
		{"1\x00", -1, false, 0},
		{"\u0661", -1, false, 0},
		{"\uff11", -1, false, 0},
		{"1\xff", -1, false, 0},
	}
}

// P7.1, P7.2: each such word as Flags: an amount.
func TestFlags(t *testing.T) {
	for _, n := range numbers() {
		for _, quiet := range [][]string{{}, {"noreply"}} {
			line := append([]string{"set", "a", n.word, "-5", "3"}, quiet...)
			if n.amount < 0 {
				says(t, wrong(3), line...)
			} else {
				says(t, sets("a", uint32(n.amount), -5, len(quiet) > 0, 3), line...)
			}
		}
	}
}

// P7.1, P7.2: each such word as Exptime, of a set and of a touch: a time.
func TestExptime(t *testing.T) {
	for _, n := range numbers() {
		for _, quiet := range [][]string{{}, {"noreply"}} {
			set := append([]string{"set", "a", "1", n.word, "3"}, quiet...)
			touch := append([]string{"touch", "a", n.word}, quiet...)
			if n.isTime {
				says(t, sets("a", 1, n.time, len(quiet) > 0, 3), set...)
				says(t, touches("a", n.time, len(quiet) > 0), touch...)
			} else {
				says(t, wrong(3), set...)
				says(t, wrong(-1), touch...)
			}
		}
	}
}

// P7.1, P7.2: each such word as BYTES: an amount, which is large above MaxBody.
func TestBytes(t *testing.T) {
	for _, n := range numbers() {
		for _, quiet := range [][]string{{}, {"noreply"}} {
			line := append([]string{"set", "a", "1", "-5", n.word}, quiet...)
			switch {
			case n.amount < 0:
				says(t, wrong(-1), line...)
			case n.amount > 1024:
				says(t, large(n.amount), line...)
			default:
				says(t, sets("a", 1, -5, len(quiet) > 0, n.amount), line...)
			}
		}
	}
}

// P7.1, P7.2: every amount of data around the bound.
func TestBytesAroundTheBound(t *testing.T) {
	for n := range 3000 {
		want := sets("a", 0, 0, false, n)
		if n > 1024 {
			want = large(n)
		}
		holds(t, want, "set", "a", "0", "0", strconv.Itoa(n))
	}
}

// P7.1, P7.2: every byte at the front, in the midst and at the end of each number, and behind a minus.
func TestNumberBytes(t *testing.T) {
	for b := range 256 {
		if b == ' ' || b == '-' {
			continue
		}
		c := string([]byte{byte(b)})
		var lines []string
		for _, word := range []string{c, c + "12", "1" + c + "2", "12" + c} {
			lines = append(lines, "set a "+word+" 2 3", "set a 1 "+word+" 3", "set a 1 2 "+word, "touch a "+word)
		}
		for _, word := range []string{"-" + c, "-" + c + "1", "-1" + c} {
			lines = append(lines, "set a 1 "+word+" 3", "touch a "+word)
		}
		isDigit := b >= '0' && b <= '9'
		for _, line := range lines {
			want := slowParse(line)
			if isDigit == (want.c.Kind == api.CmdBad) {
				t.Errorf("%q by the reckoning: %+v", line, want)
			}
			holds(t, want, words(line)...)
		}
	}
}

// P7.1, P7.2: what data is told of a set of each number of words, right and wrong, the fifth an amount and not.
func TestSetWords(t *testing.T) {
	for line, want := range map[string]answer{
		"set":                             wrong(-1),
		"set a":                           wrong(-1),
		"set a 0":                         wrong(-1),
		"set a 0 0":                       wrong(-1),
		"set 3 3 3":                       wrong(-1),
		"set a 0 noreply":                 wrong(-1),
		"set a 0 0 3":                     sets("a", 0, 0, false, 3),
		"set a 0 0 x":                     wrong(-1),
		"set a 0 0 -3":                    wrong(-1),
		"set a 0 0 noreply":               wrong(-1),
		"set a x 0 3":                     wrong(3),
		"set a 0 x 3":                     wrong(3),
		"set a x x 3":                     wrong(3),
		"set a x x x":                     wrong(-1),
		"set a -1 0 3":                    wrong(3),
		"set \x7f 0 0 3":                  wrong(3),
		"set \x7f x x 0":                  wrong(0),
		"set \x7f 0 0 x":                  wrong(-1),
		"set a 0 0 3 noreply":             sets("a", 0, 0, true, 3),
		"set a 0 0 3 x":                   wrong(3),
		"set a 0 0 3 NOREPLY":             wrong(3),
		"set a 0 0 3 Noreply":             wrong(3),
		"set a 0 0 3 norepl":              wrong(3),
		"set a 0 0 3 noreplyy":            wrong(3),
		"set a 0 0 3 noreply\r":           wrong(3),
		"set a 0 0 3 3":                   wrong(3),
		"set a 0 0 x 3":                   wrong(-1),
		"set a 0 0 x noreply":             wrong(-1),
		"set a 0 0 noreply 3":             wrong(-1),
		"set a 0 0 noreply noreply":       wrong(-1),
		"set a x 0 3 noreply":             wrong(3),
		"set a x 0 3 x":                   wrong(3),
		"set noreply a 0 0 3":             wrong(0),
		"set noreply 0 0 3":               sets("noreply", 0, 0, false, 3),
		"set noreply 0 0 3 noreply":       sets("noreply", 0, 0, true, 3),
		"set a noreply 0 3":               wrong(3),
		"set a 0 noreply 3":               wrong(3),
		"set a b 0 0 3":                   wrong(0),
		"set a b c 7 3":                   wrong(7),
		"set a 0 0 3 noreply noreply":     wrong(-1),
		"set a 0 0 3 noreply x":           wrong(-1),
		"set a 0 0 3 x noreply":           wrong(-1),
		"set a 0 0 3 3 3":                 wrong(-1),
		"set a 0 0 3 3 3 3":               wrong(-1),
		"set a x 0 3 noreply x":           wrong(-1),
		"set a 0 0 1025":                  large(1025),
		"set a 0 0 1025 noreply":          large(1025),
		"set a 0 0 1025 x":                wrong(1025),
		"set a 0 0 1025 noreply x":        wrong(-1),
		"set a x 0 1025":                  wrong(1025),
		"set a 0 x 1025 noreply":          wrong(1025),
		"set a 4294967296 0 2000":         wrong(2000),
		"set a 0 0 4294967295":            large(4294967295),
		"set a 0 0 4294967295 noreply":    large(4294967295),
		"set a x 0 4294967295":            wrong(4294967295),
		"set a 0 0 4294967296":            wrong(-1),
		"set a x 0 4294967296":            wrong(-1),
		"set a 0 0 00000000003":           wrong(-1),
		"set a x 0 0000000003":            wrong(3),
		"set set set set 3":               wrong(3),
		"set set 1 2 3":                   sets("set", 1, 2, false, 3),
		"SET a 0 0 3":                     unheard(),
		"sets a 0 0 3":                    unheard(),
		"get a 0 0 3":                     gets("a", "0", "0", "3"),
		"delete a 0 0 3":                  wrong(-1),
		"touch a 0 0 3":                   wrong(-1),
		"touch a 0 0 3 noreply":           wrong(-1),
		"stats a 0 0 3":                   wrong(-1),
		"version a 0 0 3":                 wrong(-1),
		"quit a 0 0 3":                    wrong(-1),
		"get a 0 0 3 \x01":                wrong(-1),
		"set\ta 0 0 3":                    unheard(),
		"\tset a 0 0 3":                   unheard(),
		"set \t 0 0 3":                    wrong(3),
		"set a\t0 0 3 4":                  wrong(4),
		"set a\t0 0 3":                    wrong(-1),
		"set a 0 0 3\t":                   wrong(-1),
		"set a 0 0 3\r":                   wrong(-1),
		"set a 0 0 3 \r":                  wrong(3),
		"set a 0 0 3\u00a0noreply":        wrong(-1),
		"set a 0 0\u20033":                wrong(-1),
		"set a 0 0 3 noreply set a 0 0 3": wrong(-1),
	} {
		says(t, want, words(line)...)
	}
}

// P7.1, P7.2: the word noreply in every place.
func TestNoreply(t *testing.T) {
	for line, want := range map[string]answer{
		"noreply":                         unheard(),
		"noreply set a 0 0 3":             unheard(),
		"get noreply":                     gets("noreply"),
		"get a noreply":                   gets("a", "noreply"),
		"get noreply noreply":             gets("noreply", "noreply"),
		"delete noreply":                  deletes("noreply", false),
		"delete noreply noreply":          deletes("noreply", true),
		"delete noreply noreply noreply":  wrong(-1),
		"delete a noreply noreply":        wrong(-1),
		"delete a NOREPLY":                wrong(-1),
		"delete NOREPLY noreply":          deletes("NOREPLY", true),
		"delete a noreply x":              wrong(-1),
		"delete a x noreply":              wrong(-1),
		"delete noreply a":                wrong(-1),
		"delete \x01 noreply":             wrong(-1),
		"delete a norepl":                 wrong(-1),
		"delete a noreplyx":               wrong(-1),
		"delete a 0":                      wrong(-1),
		"touch":                           wrong(-1),
		"touch a":                         wrong(-1),
		"touch noreply":                   wrong(-1),
		"touch a noreply":                 wrong(-1),
		"touch noreply noreply":           wrong(-1),
		"touch noreply 5":                 touches("noreply", 5, false),
		"touch noreply 5 noreply":         touches("noreply", 5, true),
		"touch a 5 noreply noreply":       wrong(-1),
		"touch a noreply 5":               wrong(-1),
		"touch a noreply noreply":         wrong(-1),
		"touch a 5 NOREPLY":               wrong(-1),
		"touch a 5 NoReply":               wrong(-1),
		"touch a 5 x":                     wrong(-1),
		"touch a 5 noreply x":             wrong(-1),
		"touch \x7f 5 noreply":            wrong(-1),
		"touch a x noreply":               wrong(-1),
		"stats noreply":                   wrong(-1),
		"version noreply":                 wrong(-1),
		"quit noreply":                    wrong(-1),
		"stats stats":                     wrong(-1),
		"version x":                       wrong(-1),
		"quit \x01":                       wrong(-1),
		"quit 0 0 0 3":                    wrong(-1),
		"set noreply noreply noreply 3":   wrong(3),
		"set noreply 1 1 noreply noreply": wrong(-1),
	} {
		says(t, want, words(line)...)
	}
}

// P7.1, P7.2: a word too much, and one too little, behind each; the whole line is bad then, and nothing of it is told.
func TestOneWordMoreOrLess(t *testing.T) {
	for _, first := range firsts {
		line := append([]string{first}, rest(first)...)
		for _, more := range []string{"x", "0", "-1", "noreply", "NOREPLY", first, "\x01", "\r", "\t"} {
			for n := 1; n < 20; n++ {
				longer := append(slices.Clone(line), slices.Repeat([]string{more}, n)...)
				says(t, slowParse(strings.Join(longer, " ")), longer...)
			}
		}
		for n := 1; n < len(line); n++ {
			says(t, wrong(-1), line[:n]...)
		}
	}
}

// P7.1, P7.2: white space other than blanks cuts no words.
func TestOtherWhiteSpace(t *testing.T) {
	for _, white := range []string{"\t", "\n", "\r", "\v", "\f", "\r\n", "\x00", "\u0085", "\u00a0", "\u1680", "\u2003", "\u2028", "\u3000", "\xa0", "\x85"} {
		mayBeInKey := white[0] >= 0x80
		for _, first := range firsts {
			says(t, unheard(), append([]string{first + white}, rest(first)...)...)
			says(t, unheard(), append([]string{white + first}, rest(first)...)...)
			says(t, unheard(), first+white+strings.Join(rest(first), white))
			says(t, unheard(), white, first)
		}
		for _, first := range []string{"stats", "version", "quit"} {
			says(t, wrong(-1), first, white)
		}
		says(t, wrong(3), "set", "a", "1", "2", "3", white)
		says(t, wrong(-1), "set", "a", "1", "2", "3"+white)
		says(t, wrong(3), "set", "a", "1"+white, "2", "3")
		says(t, wrong(3), "set", "a", "1", white+"2", "3")
		says(t, wrong(-1), "set", "a", "1", "2"+white+"3")
		says(t, wrong(3), "set", "a", "1", "2", "3", "noreply"+white)
		says(t, wrong(-1), "touch", "a", "2"+white)
		says(t, wrong(-1), "delete", "a", white)
		if mayBeInKey {
			says(t, gets("a"+white+"b"), "get", "a"+white+"b")
			says(t, gets("a", white), "get", "a", white)
			says(t, deletes("a"+white, false), "delete", "a"+white)
		} else {
			says(t, wrong(-1), "get", "a"+white+"b")
			says(t, wrong(-1), "get", "a", white)
			says(t, wrong(-1), "delete", "a"+white)
		}
	}
}

// P7.1: every line of six words, up to six of them behind set and up to four behind other first words.
func TestEveryShortLine(t *testing.T) {
	stock := []string{"a", "1", "-1", "noreply", "1025", "\x7f"}
	seen := map[string]int{}
	var grow func(line string, left int)
	grow = func(line string, left int) {
		got, want := parse(line), slowParse(line)
		if !same(got, want) {
			t.Fatalf("%q: %+v, not %+v", line, got, want)
		}
		seen[strconv.Itoa(got.c.Kind)+got.c.Reply]++
		if left > 0 {
			for _, word := range stock {
				grow(line+" "+word, left-1)
			}
		}
	}
	grow("set", 6)
	for _, first := range []string{"get", "delete", "touch", "stats", "version", "quit", "gets", "noreply"} {
		grow(first, 4)
	}
	for _, kind := range []string{"1", "2", "3", "4", "5", "6", "7", "8" + sayError, "8" + sayFormat, "8" + sayLarge} {
		if seen[kind] == 0 {
			t.Errorf("no line was a %q", kind)
		}
	}
}

// dice draws what tests are made of: always the same, so that a test fails each time or never.
type dice struct{ *rand.Rand }

func newDice(seed uint64) dice { return dice{rand.New(rand.NewPCG(seed, 7))} }

func one[T any](d dice, l ...T) T { return l[d.IntN(len(l))] }

func (d dice) number() string {
	l := numbers()
	if d.IntN(4) > 0 {
		return one(d, "0", "1", "3", "1023", "1024", "1025", "4294967295", strconv.Itoa(d.IntN(2000)), strconv.Itoa(int(d.Uint32())))
	}
	return l[d.IntN(len(l))].word
}

func (d dice) key() string {
	if d.IntN(8) > 0 {
		return one(d, "a", "b", "key", "noreply", "0", "-1", "\xff", strings.Repeat("k", 250))
	}
	return one(d, strings.Repeat("k", 251), "\x7f", "a\tb", "\r", "\x00", string([]byte{byte(33 + d.IntN(223))}))
}

func (d dice) any() string {
	switch d.IntN(4) {
	case 0:
		return d.number()
	case 1:
		return d.key()
	case 2:
		return one(d, firsts...)
	}
	return one(d, "noreply", "NOREPLY", "gets", "SET", "se", "touch\t", "\n", "\r")
}

// line is words of one of the seven shapes, of which some are put in, taken off, or drawn anew.
func (d dice) line() []string {
	first := one(d, firsts...)
	l := []string{first}
	switch first {
	case "get":
		for range one(d, 0, 1, 2, 3, 15, 16, 17) {
			l = append(l, d.key())
		}
	case "set":
		l = append(l, d.key(), d.number(), d.number(), d.number())
	case "delete":
		l = append(l, d.key())
	case "touch":
		l = append(l, d.key(), d.number())
	}
	if d.IntN(4) == 0 {
		l = append(l, "noreply")
	}
	for range one(d, 0, 0, 0, 1, 2) {
		at := d.IntN(len(l) + 1)
		switch {
		case d.IntN(3) == 0 || at == len(l):
			l = slices.Insert(l, at, d.any())
		case d.IntN(2) == 0:
			l[at] = d.any()
		default:
			l = slices.Delete(l, at, at+1)
		}
	}
	return l
}

// P7.1, P7.2: many lines of words drawn at random, with blanks drawn at random, against the reckoning apart.
func TestManyLines(t *testing.T) {
	d := newDice(1)
	seen := map[string]int{}
	for range 100000 {
		l := d.line()
		line := strings.Repeat(" ", d.IntN(3))
		for i, word := range l {
			if i > 0 {
				line += strings.Repeat(" ", one(d, 1, 1, 1, 2, 3, 9))
			}
			line += word
		}
		line += strings.Repeat(" ", d.IntN(3))
		got, want := parse(line), slowParse(line)
		if !same(got, want) {
			t.Fatalf("%q: %+v, not %+v", line, got, want)
		}
		if single := parse(strings.Join(l, " ")); !same(got, single) {
			t.Fatalf("%q: %+v, but with single blanks %+v", line, got, single)
		}
		seen[strconv.Itoa(got.c.Kind)+got.c.Reply]++
		if got.c.Quiet {
			seen["quiet"]++
		}
		if got.c.Kind == api.CmdBad && got.data >= 0 {
			seen["bad with data"]++
		}
	}
	for _, kind := range []string{"1", "2", "3", "4", "5", "6", "7", "8" + sayError, "8" + sayFormat, "8" + sayLarge, "quiet", "bad with data"} {
		if seen[kind] < 500 {
			t.Errorf("%q came up %d times: the test tells little", kind, seen[kind])
		}
	}
}

// P7.1: any bytes at all are answered.
func TestAnyBytes(t *testing.T) {
	d := newDice(2)
	for range 50000 {
		b := make([]byte, d.IntN(30))
		for i := range b {
			b[i] = one(d, ' ', ' ', '0', '1', '-', 'a', '\r', '\n', '\t', byte(d.IntN(256)))
		}
		line := one(d, "", "get ", "set ", "set a 0 0 ", "delete ", "touch ", "touch a ", "quit") + string(b)
		if got, want := parse(line), slowParse(line); !same(got, want) {
			t.Fatalf("%q: %+v, not %+v", line, got, want)
		}
	}
}

// P7.1: a line of a great many bytes, in words and in one.
func TestLongLines(t *testing.T) {
	says(t, unheard(), strings.Repeat("get", 1<<18))
	says(t, wrong(-1), "get", strings.Repeat("k", 1<<18))
	says(t, wrong(3), "set", strings.Repeat("k", 1<<18), "0", "0", "3")
	says(t, wrong(-1), "set", "a", "0", "0", strings.Repeat("3", 1<<18))
	says(t, wrong(3), "set", "a", "0", "0", "3", strings.Repeat("noreply", 1<<16))
	says(t, wrong(-1), "touch", "a", "-"+strings.Repeat("0", 1<<18))
}

// R2, R3: what is answered is new memory each time, and hangs on the line alone.
func TestNewMemory(t *testing.T) {
	for _, line := range []string{"get a b key key", "set key 1 2 3", "delete key", "touch key 5 noreply"} {
		first := parse(line)
		begin := uintptr(unsafe.Pointer(unsafe.StringData(line)))
		for _, key := range first.c.Keys {
			at := uintptr(unsafe.Pointer(unsafe.StringData(key)))
			if at >= begin && at < begin+uintptr(len(line)) {
				t.Errorf("%q: the key %q is the line's memory", line, key)
			}
		}
		spare := first.c.Keys[:cap(first.c.Keys)]
		for i := range spare {
			spare[i] = "other"
		}
		if got, want := parse(line), slowParse(line); !same(got, want) {
			t.Errorf("%q, again: %+v, not %+v", line, got, want)
		}
	}
}
