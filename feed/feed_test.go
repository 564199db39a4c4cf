package feed

import (
	"math/rand/v2"
	"slices"
	"strconv"
	"strings"
	"testing"
	"unsafe"

	"tattler/api"
)

func get(keys ...string) api.Cmd { return api.Cmd{Kind: api.CmdGet, Keys: keys} }

func set(key, body string) api.Cmd {
	return api.Cmd{Kind: api.CmdSet, Keys: []string{key}, Body: body}
}

func plain(kind int) api.Cmd { return api.Cmd{Kind: kind} }

func stats() api.Cmd { return plain(api.CmdStats) }

func quit() api.Cmd { return plain(api.CmdQuit) }

// setLine is the line of a set of the key a.
func setLine(data int) string { return "set a 0 0 " + strconv.Itoa(data) + "\r\n" }

// dice draws what tests are made of: always the same, so that a test fails each time or never.
type dice struct{ *rand.Rand }

func newDice(seed uint64) dice { return dice{rand.New(rand.NewPCG(seed, 8))} }

func one[T any](d dice, l ...T) T { return l[d.IntN(len(l))] }

// places is some places at which n bytes are cut, in order: few or many.
func (d dice) places(n int) []int {
	var l []int
	for range d.IntN(one(d, 3, 10, 100)) {
		l = append(l, d.IntN(n+1))
	}
	slices.Sort(l)
	return l
}

// piece is one piece of a stream, and all that is to be told behind it.
type piece struct {
	text string
	want []api.Cmd
	held int
	over bool
}

func follow(t *testing.T, pieces ...piece) {
	t.Helper()
	f := New()
	for i, p := range pieces {
		got := f.Take(p.text)
		if !same(got, p.want) || f.Held() != p.held || f.Over() != p.over {
			t.Fatalf("piece %d, %s: %s, held %d, over %v, not %s, %d, %v", i, short(p.text), short(got), f.Held(), f.Over(), short(p.want), p.held, p.over)
		}
	}
}

func tells(c ...api.Cmd) []api.Cmd { return c }

// P8.1: the chapter's example.
func TestExample(t *testing.T) {
	follow(t,
		piece{text: "get a\r", held: 6},
		piece{text: "\nset b 0 0 2\r\nx", want: tells(get("a")), held: 1},
		piece{text: "y\r\n", want: tells(set("b", "xy"))},
	)
	isTold(t, "get a\r\nset b 0 0 2\r\nxy\r\n", get("a"), set("b", "xy"))
}

// P8.1: every kind of command, alone, two of them, and all of them.
func TestOrdinaryStreams(t *testing.T) {
	kinds := []struct {
		text string
		want api.Cmd
	}{
		{"get a\r\n", get("a")},
		{"get some-key b  c \r\n", get("some-key", "b", "c")},
		{"set a 0 0 5\r\nhello\r\n", set("a", "hello")},
		{"set k 7 -3 2 noreply\r\nab\r\n", api.Cmd{Kind: api.CmdSet, Keys: []string{"k"}, Flags: 7, Exptime: -3, Quiet: true, Body: "ab"}},
		{"set k 4294967295 9999999999 1\r\n \r\n", api.Cmd{Kind: api.CmdSet, Keys: []string{"k"}, Flags: 4294967295, Exptime: 9999999999, Body: " "}},
		{"delete a\r\n", api.Cmd{Kind: api.CmdDelete, Keys: []string{"a"}}},
		{"delete a noreply\r\n", api.Cmd{Kind: api.CmdDelete, Keys: []string{"a"}, Quiet: true}},
		{"touch a 10\r\n", api.Cmd{Kind: api.CmdTouch, Keys: []string{"a"}, Exptime: 10}},
		{"touch a -10 noreply\r\n", api.Cmd{Kind: api.CmdTouch, Keys: []string{"a"}, Exptime: -10, Quiet: true}},
		{"stats\r\n", stats()},
		{"version\r\n", plain(api.CmdVersion)},
		{"gets a\r\n", say(sayError)},
		{"delete\r\n", say(sayFormat)},
	}
	all := ""
	var wants []api.Cmd
	for _, a := range kinds {
		isTold(t, a.text, a.want)
		for _, b := range kinds {
			isTold(t, a.text+b.text, a.want, b.want)
		}
		all += a.text
		wants = append(wants, a.want)
	}
	isTold(t, all+"quit\r\n", append(wants, quit())...)
	isTold(t, "quit\r\n", quit())
	isTold(t, "")
}

// P8.1: a line feed ends a line, one return right ahead of it is no part of it; any other return is.
func TestLineEnds(t *testing.T) {
	for stream, want := range map[string][]api.Cmd{
		"get a\nget b\n":                    {get("a"), get("b")},
		"get a\r\nget b\r\n":                {get("a"), get("b")},
		"get a\r\r\nstats\n":                {say(sayFormat), stats()},
		"stats\r\r\nstats\r\n":              {say(sayError), stats()},
		"stats \r\r\nstats\r\n":             {say(sayFormat), stats()},
		"stats \r\n stats \n":               {stats(), stats()},
		"get a\rb\r\nstats\r\n":             {say(sayFormat), stats()},
		"get\ra\nstats\n":                   {say(sayError), stats()},
		"stats\rstats\nstats\n":             {say(sayError), stats()},
		"\rstats\nstats\n":                  {say(sayError), stats()},
		"get a\n\rstats\r\n":                {get("a"), say(sayError)},
		"\n":                                {say(sayError)},
		"\r\n":                              {say(sayError)},
		"\r\r\n":                            {say(sayError)},
		"\n\n\r\n":                          {say(sayError), say(sayError), say(sayError)},
		"\n\r":                              {say(sayError)},
		"  \r\nstats\n":                     {say(sayError), stats()},
		"quit\n":                            {quit()},
		"quit\r\r\nstats\r\n":               {say(sayError), stats()},
		"set a 0 0 1\nx\r\nstats\n":         {set("a", "x"), stats()},
		"set a 0 0 1\r\r\nstats\n":          {say(sayFormat), stats()},
		"set a 0 0 1 \r\r\nx\r\nstats\n":    {say(sayFormat), stats()},
		"set a 0\r0 1\r\nstats\n":           {say(sayFormat), stats()},
		"get \u00e9 \xff\r\nstats\v\r\n":    {get("\u00e9", "\xff"), say(sayError)},
		"get a\x00\r\nget \x0b\r\nstats\n":  {say(sayFormat), say(sayFormat), stats()},
		"get a":                             nil,
		"get a\r":                           nil,
		"stats\r\nget a":                    {stats()},
		"delete a\n\n\ntouch a 1\n":         {{Kind: api.CmdDelete, Keys: []string{"a"}}, say(sayError), say(sayError), {Kind: api.CmdTouch, Keys: []string{"a"}, Exptime: 1}},
		"version\nversion\r\nversion\r\r\n": {plain(api.CmdVersion), plain(api.CmdVersion), say(sayError)},
	} {
		isTold(t, stream, want...)
	}
}

// bodies is data of many kinds and lengths.
func bodies() []string {
	l := []string{"", "x", "\n", "\r", "\r\n", "\n\r", "\r\r", "\n\n", "\x00", "\xff\xfe", "quit\r\n", "quit\n", "\r\nquit\r\n", "get a\r\nget b\r\n", "set b 0 0 3\r\nabc\r\n", "set b 0 0 1000\r\n", "\r\nset", " a b ", "x\r", "x\n", "\rx", "\nx"}
	for _, n := range []int{2, 1023, 1024} {
		l = append(l, strings.Repeat("y", n), strings.Repeat("\n", n), strings.Repeat("\r", n), strings.Repeat("\r\n", n)[:n], strings.Repeat("quit\r\n", n)[:n])
	}
	return l
}

// P8.1: data is whatever it is, of 0 bytes up to MaxBody.
func TestData(t *testing.T) {
	for _, body := range bodies() {
		isTold(t, setLine(len(body))+body+"\r\nstats\r\n", set("a", body), stats())
	}
	for b := range 256 {
		body := string([]byte{byte(b)})
		isTold(t, setLine(1)+body+"\r\nstats\r\n", set("a", body), stats())
		isTold(t, setLine(3)+body+body+body+"\r\nstats\r\n", set("a", body+body+body), stats())
	}
	for n := range 1025 {
		body := strings.Repeat("z", n)
		isTold(t, setLine(n)+body+"\r\n", set("a", body))
	}
}

// P8.1: a set is one only if its tail is just a return and a line feed.
func TestTails(t *testing.T) {
	for _, body := range []string{"", "x", "x\n", "x\r", "\r\n", strings.Repeat("y", 1024)} {
		for _, tail := range []string{
			"\n", "\r\r\n", "\rx\n", "x\n", "x\r\n", "\r \n", " \r\n", "\rx\r\n", "\r\r\r\n", "\x00\r\n", "\r\x00\n", "\v\n", "\r\v\n",
			"get b\r\n", "quit\r\n", "set b 0 0 3\r\n", "\rquit\r\n", strings.Repeat("\r", 3000) + "\n", strings.Repeat("t", 3000) + "\r\n",
		} {
			if len(tail) > 2000 && len(body) > 2 {
				continue
			}
			isTold(t, setLine(len(body))+body+tail+"stats\r\n", say(sayChunk), stats())
			isTold(t, setLine(len(body))+body+tail[:len(tail)-1])
		}
		isTold(t, setLine(len(body))+body+"\r\nstats\r\n", set("a", body), stats())
		isTold(t, setLine(len(body))+body+"\r\n\nstats\r\n", set("a", body), say(sayError), stats())
		isTold(t, setLine(len(body))+body+"\r\n\r\nstats\r\n", set("a", body), say(sayError), stats())
		isTold(t, setLine(len(body))+body+"\r")
	}
	for b := range 256 {
		if b == '\n' {
			continue
		}
		c := string([]byte{byte(b)})
		isTold(t, setLine(2)+"xy\r"+c+"\nstats\n", say(sayChunk), stats())
		isTold(t, setLine(2)+"xy"+c+"\r\nstats\n", say(sayChunk), stats())
		if b != '\r' {
			isTold(t, setLine(2)+"xy"+c+"\nstats\n", say(sayChunk), stats())
		}
	}
}

// P8.1: a CmdBad of data has nothing of its set, noreply neither.
func TestBadChunkTellsNothingElse(t *testing.T) {
	r := isTold(t, "set k 7 -3 2 noreply\r\nabc\r\n", say(sayChunk))
	got := New().Take(r.stream)
	if len(got) != 1 || len(got[0].Keys) != 0 || got[0].Flags != 0 || got[0].Exptime != 0 || got[0].Quiet || got[0].Body != "" || got[0].Reply != "CLIENT_ERROR bad data chunk\r\n" {
		t.Errorf("%+v", got)
	}
}

// P8.1: data that is shorter or longer than its line says: as many bytes are taken as it says, then all up to a line feed.
func TestShortAndLongData(t *testing.T) {
	for stream, want := range map[string][]api.Cmd{
		"set a 0 0 5\r\nxy\r\nstats\r\nversion\n":         {say(sayChunk), plain(api.CmdVersion)},
		"set a 0 0 5\r\nxyz\r\nstats\r\n":                 {say(sayChunk)},
		"set a 0 0 5\r\nxyz\r\n\r\nstats\r\n":             {set("a", "xyz\r\n"), stats()},
		"set a 0 0 5\r\nxyz\r\n\nstats\r\n":               {say(sayChunk), stats()},
		"set a 0 0 4\r\nxyz\r\nstats\r\n":                 {say(sayChunk), stats()},
		"set a 0 0 1\r\nxyz\r\nstats\r\n":                 {say(sayChunk), stats()},
		"set a 0 0 2\r\nx\n\r\nstats\r\n":                 {set("a", "x\n"), stats()},
		"set a 0 0 2\r\nx\r\nstats\r\n":                   {say(sayChunk), stats()},
		"set a 0 0 1\r\nx\ny\r\nstats\r\n":                {say(sayChunk), say(sayError), stats()},
		"set a 0 0 0\r\nx\r\nstats\r\n":                   {say(sayChunk), stats()},
		"set a 0 0 0\r\nstats\r\nstats\r\n":               {say(sayChunk), stats()},
		"set a 0 0 7\r\nstats\r\nstats\r\nversion\r\n":    {say(sayChunk), plain(api.CmdVersion)},
		"set a 0 0 7\r\nstats\r\n\r\nversion\r\n":         {set("a", "stats\r\n"), plain(api.CmdVersion)},
		"set a 0 0 3\r\nx\r\nset b 0 0 1\r\ny\r\nstats\n": {say(sayChunk), say(sayError), stats()},
		"set a 0 0 20\r\nx\r\nget b\r\n":                  nil,
	} {
		isTold(t, stream, want...)
	}
}

// P8.1, P8.2: the data and the tail of a line that is bad, as many bytes as it says, are passed.
func TestDataOfBadLines(t *testing.T) {
	tails := []string{"\r\n", "\n", "x\r\n", "\rx\n", "\r\r\n", "quit\r\n", "set b 0 0 9\r\n"}
	for _, tail := range tails {
		for _, body := range bodies() {
			if len(body) > 100 && tail != "\r\n" {
				continue
			}
			n := strconv.Itoa(len(body))
			isTold(t, "set a x 0 "+n+"\r\n"+body+tail+"stats\r\n", say(sayFormat), stats())
			isTold(t, "set \x7f 0 0 "+n+" noreply\n"+body+tail+"stats\r\n", say(sayFormat), stats())
			isTold(t, "set a 0 0 "+n+" x\r\n"+body+tail+"get b\r\n", say(sayFormat), get("b"))
		}
		for _, n := range []int{1025, 1026, 2047, 2048, 2049, 4000} {
			for _, stuff := range []string{"x", "\n", "\r\n", "quit\r\n"} {
				body := strings.Repeat(stuff, n)[:n]
				isTold(t, setLine(n)+body+tail+"stats\r\n", say(sayLarge), stats())
			}
		}
	}
	isTold(t, setLine(1025)+strings.Repeat("x", 1025)+"\r\nstats\r\n", say(sayLarge), stats())
	isTold(t, setLine(1025)+strings.Repeat("\n", 1025)+"\nstats\r\n", say(sayLarge), stats())
	isTold(t, setLine(1025)+strings.Repeat("\n", 1025)+"stats\r\nversion\n", say(sayLarge), plain(api.CmdVersion))
	isTold(t, "set a 0 0 2000 noreply\r\n"+strings.Repeat("x", 2000)+"\r\nstats\r\n", say(sayLarge), stats())
	isTold(t, "set a x 0 1025\r\n"+strings.Repeat("\n", 1025)+"\r\nstats\r\n", say(sayFormat), stats())
	isTold(t, "set a x 0 5\r\nxy\r\nstats\r\nversion\n", say(sayFormat), plain(api.CmdVersion))
	isTold(t, "set a x 0 0\r\nquit\r\nstats\r\n", say(sayFormat), stats())
	isTold(t, "set a x 0 3\r\nabc", say(sayFormat))
	isTold(t, "set a x 0 3\r\nabc\r", say(sayFormat))
}

// P8.1, P8.2, P8.3: BYTES of 2^32 - 1: the data is counted to its last byte, and nothing of it is held or told.
func TestGreatestData(t *testing.T) {
	big := strings.Repeat("quit\r\nset b 0 0 1\r\n", 1<<17)
	for line, reply := range map[string]string{"set a 0 0 4294967295\r\n": sayLarge, "set a 0 0 4294967295 noreply\n": sayLarge, "set a x 0 4294967295\r\n": sayFormat} {
		f := New()
		if got := f.Take(line); !same(got, tells(say(reply))) {
			t.Fatalf("%q: %s", line, short(got))
		}
		for left := 1<<32 - 2; left > 0; {
			n := min(left, len(big))
			left -= n
			if got := f.Take(big[:n]); len(got) != 0 || f.Held() != 0 || f.Over() {
				t.Fatalf("%q, %d bytes ahead of the data's end: %s, held %d, over %v", line, left+1, short(got), f.Held(), f.Over())
			}
		}
		// The data's last byte is a line feed, and so is the tail: a byte more or less would be told.
		if got := f.Take("\n" + "\n" + "stats\r\nversion\r\n"); !same(got, tells(stats(), plain(api.CmdVersion))) {
			t.Errorf("%q, behind the data: %s", line, short(got))
		}
	}
}

// padded is a line with blanks behind, till so many bytes stand ahead of its line feed, the end among them.
func padded(line string, n int, end string) string {
	return line + strings.Repeat(" ", n-len(line)-len(end)) + end + "\n"
}

// P8.1, P8.2: lines of MaxLine bytes ahead of their line feed, and of one less and more; a return there is one of these bytes.
func TestLongLines(t *testing.T) {
	for _, n := range []int{2047, 2048} {
		for _, end := range []string{"", "\r"} {
			isTold(t, padded("stats", n, end)+"stats\n", stats(), stats())
			isTold(t, padded("get a", n, end)+"stats\n", get("a"), stats())
			isTold(t, padded("quit", n, end)+"stats\n", quit())
			isTold(t, padded("set a 0 0 2", n, end)+"xy\r\nstats\n", set("a", "xy"), stats())
			isTold(t, padded("set a x 0 2", n, end)+"xy\r\nstats\n", say(sayFormat), stats())
			isTold(t, padded("", n, end)+"stats\n", say(sayError), stats())
			isTold(t, padded(strings.Repeat("y", 2046), n, end)+"stats\n", say(sayError), stats())
		}
	}
	isTold(t, padded("stats", 2048, "\r\r")+"stats\n", say(sayFormat), stats())
	isTold(t, padded("stats", 2049, "\r\r")+"stats\n", say(sayLong), stats())
	for _, n := range []int{2049, 2050, 2051, 4095, 4096, 4097, 4098, 5000} {
		for _, end := range []string{"", "\r"} {
			isTold(t, padded("stats", n, end)+"stats\n", say(sayLong), stats())
			isTold(t, padded("quit", n, end)+"stats\n", say(sayLong), stats())
			isTold(t, padded("set a 0 0 2", n, end)+"xy\r\nstats\n", say(sayLong), say(sayError), stats())
			isTold(t, padded("set a x 0 9", n, end)+"stats\r\nstats\n", say(sayLong), stats(), stats())
			isTold(t, padded("set a 0 0 5000", n, end)+"\nstats\n", say(sayLong), say(sayError), stats())
			isTold(t, strings.Repeat("\r", n)+end+"\nstats\n", say(sayLong), stats())
		}
	}
	isTold(t, strings.Repeat("y", 2047)+"\n"+strings.Repeat("y", 2048)+"\n"+strings.Repeat("y", 2049)+"\n", say(sayError), say(sayError), say(sayLong))
	isTold(t, strings.Repeat("y", 3000)+"\n"+strings.Repeat("y", 3000)+"\nstats\n", say(sayLong), say(sayLong), stats())
	isTold(t, strings.Repeat("y", 2047)+"\r\n"+strings.Repeat("y", 2048)+"\r\nstats\n", say(sayError), say(sayLong), stats())
}

// P8.1: a line too long is told as soon as its byte MaxLine and 1 is read, once, and not ahead of that.
func TestLongLineIsToldAtOnce(t *testing.T) {
	for _, first := range []string{"y", "\r", " ", "set a 0 0 5"} {
		line := (first + strings.Repeat(" ", 2048))[:2048]
		for _, last := range []string{"y", "\r", " ", "\x00"} {
			follow(t,
				piece{text: line, held: 2048},
				piece{text: last, want: tells(say(sayLong))},
				piece{text: "quit"},
				piece{text: strings.Repeat("y", 5000)},
				piece{text: "\r"},
				piece{text: "\nget", held: 3},
				piece{text: " a\n", want: tells(get("a"))},
			)
			follow(t, piece{text: line + last, want: tells(say(sayLong))}, piece{text: "\nstats\n", want: tells(stats())})
			follow(t, piece{text: line + last + "\r\nx", want: tells(say(sayLong)), held: 1})
		}
	}
	follow(t, piece{text: strings.Repeat("y", 2048), held: 2048}, piece{text: "\n", want: tells(say(sayError))})
	follow(t, piece{text: strings.Repeat("y", 2047), held: 2047}, piece{text: "\r", held: 2048}, piece{text: "\n", want: tells(say(sayError))})
	follow(t, piece{text: strings.Repeat("y", 2048), held: 2048}, piece{text: "\r", want: tells(say(sayLong))}, piece{text: "\n"})
	follow(t, piece{text: strings.Repeat("y", 1<<20), want: tells(say(sayLong))}, piece{text: "\n"})
}

// P8.1: behind a quit nothing is read any more, neither in its piece nor in the next ones; a quit in data is none.
func TestQuit(t *testing.T) {
	for _, behind := range []string{"", "\n", "x", "stats\r\n", "quit\r\n", "set a 0 0 1\r\nx\r\n", "set a 0 0 9", strings.Repeat("y", 3000), strings.Repeat("\n", 50)} {
		for _, line := range []string{"quit\n", "quit\r\n", "  quit  \r\n"} {
			isTold(t, line+behind, quit())
			isTold(t, "stats\n"+line+behind, stats(), quit())
			isTold(t, setLine(6)+"quit\r\n\r\n"+line+behind, set("a", "quit\r\n"), quit())
			follow(t,
				piece{text: "get a\n" + line + behind, want: tells(get("a"), quit()), over: true},
				piece{text: behind, over: true},
				piece{text: "stats\r\n", over: true},
				piece{text: "quit\r\n", over: true},
				piece{over: true},
			)
		}
	}
	isTold(t, "quit x\nstats\n", say(sayFormat), stats())
	isTold(t, "QUIT\nstats\n", say(sayError), stats())
	isTold(t, "quit")
	isTold(t, "quit\r")
}

// P8.3: what is held behind each piece: of the line, or of the data of a set, till its tail is whole; of what is passed none.
func TestHeldAndOver(t *testing.T) {
	follow(t,
		piece{},
		piece{text: "g", held: 1},
		piece{text: "", held: 1},
		piece{text: "et a", held: 5},
		piece{text: "\r", held: 6},
		piece{text: "\r", held: 7},
		piece{text: "\n", want: tells(say(sayFormat))},
		piece{text: "get a\nge", want: tells(get("a")), held: 2},
		piece{text: "t a\n", want: tells(get("a"))},
		piece{text: "set a 0 0 5", held: 11},
		piece{text: "\r", held: 12},
		piece{text: "\n"},
		piece{text: "ab", held: 2},
		piece{text: "", held: 2},
		piece{text: "\n\n\n", held: 5},
		piece{text: "\r", held: 5},
		piece{text: "\n", want: tells(set("a", "ab\n\n\n"))},
		piece{text: "set a 0 0 0\n"},
		piece{text: "\r"},
		piece{text: "\n", want: tells(set("a", ""))},
		piece{text: "set a 0 0 0\nx"},
		piece{text: "y\r"},
		piece{text: "\n", want: tells(say(sayChunk))},
		piece{text: "set a 0 0 2\nxyz", held: 2},
		piece{text: strings.Repeat("z", 9000), held: 2},
		piece{text: "\nx", want: tells(say(sayChunk)), held: 1},
		piece{text: "\n", want: tells(say(sayError))},
		piece{text: "set a 0 0 1024\n" + strings.Repeat("x", 1023), held: 1023},
		piece{text: "x", held: 1024},
		piece{text: "\r", held: 1024},
		piece{text: "\nst", want: tells(set("a", strings.Repeat("x", 1024))), held: 2},
		piece{text: "ats\n", want: tells(stats())},
		piece{text: "set a 0 0 1025\nabc", want: tells(say(sayLarge))},
		piece{text: strings.Repeat("x", 1022)},
		piece{text: "\r"},
		piece{text: "xyz"},
		piece{text: "\ny", held: 1},
		piece{text: "\n", want: tells(say(sayError))},
		piece{text: "set a x 0 3\nab", want: tells(say(sayFormat))},
		piece{text: "c\r"},
		piece{text: "\n"},
		piece{text: "qui", held: 3},
		piece{text: "t\nget", want: tells(quit()), over: true},
		piece{text: " a\n", over: true},
	)
}

// R1: a nil feed tells nothing, holds nothing, and is over.
func TestNilFeed(t *testing.T) {
	var f *Feed
	for _, s := range []string{"", "get a\r\n", "get a", strings.Repeat("y", 3000)} {
		if got := f.Take(s); len(got) != 0 || f.Held() != 0 || !f.Over() {
			t.Errorf("%.20q: %+v, held %d, over %v", s, got, f.Held(), f.Over())
		}
	}
}

// P8.1: a new feed has read nothing, and no two of them know of each other.
func TestNew(t *testing.T) {
	f, g := New(), New()
	if f.Held() != 0 || f.Over() || f == g {
		t.Fatalf("held %d, over %v", f.Held(), f.Over())
	}
	f.Take("set a 0 0 3\r\nab")
	g.Take("quit\r\n")
	h := New()
	if h.Held() != 0 || h.Over() || f.Held() != 2 || f.Over() || g.Held() != 0 || !g.Over() {
		t.Errorf("held %d, %d, %d; over %v, %v, %v", f.Held(), g.Held(), h.Held(), f.Over(), g.Over(), h.Over())
	}
	if got := f.Take("c\r\n"); !same(got, tells(set("a", "abc"))) {
		t.Errorf("%+v", got)
	}
	if got := h.Take("stats\n"); !same(got, tells(stats())) {
		t.Errorf("%+v", got)
	}
}

// P8.2: behind whatever is bad, each stream is told as at a stream's beginning.
func TestGoesOn(t *testing.T) {
	bads := map[string]string{
		"\n":                             sayError,
		"gets a\r\n":                     sayError,
		"\r\r\n":                         sayError,
		strings.Repeat("y", 2048) + "\n": sayError,
		"get\r\n":                        sayFormat,
		"get a\rb\n":                     sayFormat,
		"set a 0 0\n":                    sayFormat,
		"set a 0 0 4294967296\n":         sayFormat,
		"set a x 0 0\n\n":                sayFormat,
		"set a x 0 4\nquit\r\n":          sayFormat,
		"set a x 0 4\nquitset a 0 0 5\n": sayFormat,
		"set a 0 0 3 5\n\n\n\n\r\n":      sayFormat,
		setLine(0) + "\n":                sayChunk,
		setLine(1) + "\r\n":              sayChunk,
		setLine(2) + "xyz\r\n":           sayChunk,
		setLine(2) + "xy\r\r\n":          sayChunk,
		setLine(1024) + strings.Repeat("quit\r\n", 171)[:1024] + "!\n":   sayChunk,
		setLine(1025) + strings.Repeat("quit\r\n", 171)[:1024] + "!\n":   sayLarge,
		setLine(1025) + strings.Repeat("quit\r\n", 171)[:1024] + "!\r\n": sayLarge,
		strings.Repeat("y", 2049) + "\n":                                 sayLong,
		strings.Repeat("y", 2048) + "\r\n":                               sayLong,
		"set a 0 0 5" + padded("", 2048, "\r"):                           sayLong,
		"quit" + padded("", 9000, "set a 0 0 5"):                         sayLong,
	}
	streams := []string{"get a\r\n", "set b 1 2 3\r\nx\nz\r\n", "\nstats\n", "quit\nstats\n", "set a 0 0 1\nxy\nstats\n", "set a 0 0 0\n\r\nget b", "set a 0 0 5\nxy", padded("stats", 2048, "\r"), padded("stats", 2049, "\r") + "stats\n"}
	for bad, reply := range bads {
		isTold(t, bad, say(reply))
		for _, stream := range streams {
			alone, f := New(), New()
			if got := f.Take(bad); !same(got, tells(say(reply))) || f.Held() != 0 {
				t.Fatalf("%s: %s, held %d", short(bad), short(got), f.Held())
			}
			for i := range len(stream) {
				got, want := f.Take(stream[i:i+1]), alone.Take(stream[i:i+1])
				if !same(got, want) || f.Held() != alone.Held() || f.Over() != alone.Over() {
					t.Fatalf("%s, then %s, behind %d bytes: %s, held %d, over %v, but alone %s, %d, %v", short(bad), short(stream), i+1, short(got), f.Held(), f.Over(), short(want), alone.Held(), alone.Over())
				}
			}
			r := reckon(bad + stream)
			r.follows(t, nil)
			r.follows(t, []int{len(bad)})
		}
	}
}

// P8.3: whatever comes, in pieces however long, no more than MaxLine and MaxBody bytes are held; nor is there much more room.
func TestBounded(t *testing.T) {
	d := newDice(3)
	for _, stuff := range []struct {
		text string
		most int
	}{
		{"y", 2048},
		{"\r", 2048},
		{"get a ", 2048},
		{"set a 0 0 1024\n", 1024},
		{"set a 0 0 777\r\n", 777},
		{"set a 0 0 0\n", 11},
		{"set a 0 0 1025\n", 14},
		{"set a 0 0 4294967295\n", 20},
		{"x\r\n", 2},
	} {
		f := New()
		most := 0
		take := func(piece string) {
			f.Take(piece)
			most = max(most, f.Held())
			if f.Held() < 0 || f.Held() > 2048 || f.set.Kind != 0 && f.Held() > 1024 || cap(f.held) > 2*2048 {
				t.Fatalf("%q: %d held, with room for %d", stuff.text, f.Held(), cap(f.held))
			}
		}
		// First byte by byte, so that what is held grows as far as it may.
		for i := range 5000 {
			take(stuff.text[i%len(stuff.text) : i%len(stuff.text)+1])
		}
		for range 300 {
			take(strings.Repeat(stuff.text, 1+d.IntN(one(d, 3, 300, 5000))))
		}
		if most != stuff.most {
			t.Errorf("%q: at most %d were held, not %d", stuff.text, most, stuff.most)
		}
	}
}

// P8.1, P8.3: every stream of six of these pieces, at once and byte by byte; shorter ones are their beginnings.
func TestEveryShortStream(t *testing.T) {
	stock := []string{"\r", "\n", "x", "get a", "set a 0 0 1", "set a x 0 2", "quit"}
	var grow func(stream string, left int)
	grow = func(stream string, left int) {
		if left == 0 {
			r := reckon(stream)
			r.follows(t, nil)
			r.follows(t, everyPlace(stream))
			return
		}
		for _, more := range stock {
			grow(stream+more, left-1)
		}
	}
	grow("", 6)
}

// ends is what may stand behind data; the last two have no line feed.
func (d dice) ends() string {
	if d.IntN(2) == 0 {
		return "\r\n"
	}
	return one(d, "\r\n", "\n", "\r\r\n", "\rx\n", "x\r\n", " \r\n", "get b\r\n", "quit\n", strings.Repeat("t", d.IntN(3000))+"\n", "\r", "")
}

func (d dice) body(n int) string {
	switch d.IntN(4) {
	case 0:
		return strings.Repeat("x", n)
	case 1:
		return strings.Repeat(one(d, "\n", "\r", "\r\n", "quit\r\n", "set b 0 0 3\r\n"), n)[:n]
	}
	b := make([]byte, n)
	for i := range b {
		b[i] = one(d, 'x', '\r', '\n', ' ', byte(d.IntN(256)))
	}
	return string(b)
}

// withData is a set, or a bad line that has data, and mostly as many bytes as it says.
func (d dice) withData() string {
	n := one(d, 0, 1, 2, 3, d.IntN(30), d.IntN(30), 1023, 1024, 1025, d.IntN(3000))
	if d.IntN(60) == 0 {
		return one(d, "set a 0 0 4294967295", "set a x 0 4294967295", "set a 0 0 4294967296") + "\r\n" + d.body(n) + d.ends()
	}
	line := one(d, "set a 0 0 ", "set key 12 -34 ", "set a x 0 ", "set \x7f 0 0 ") + strconv.Itoa(n) + one(d, "", "", " ", " noreply", " x")
	if d.IntN(5) == 0 {
		n = max(0, n+one(d, -2, -1, 1, 2, 7))
	}
	return line + d.lineEnd() + d.body(n) + d.ends()
}

func (d dice) lineEnd() string {
	return one(d, "\r\n", "\r\n", "\n", "\n", "\r\n", "\n", "\r\r\n")
}

func (d dice) longLine() string {
	n := one(d, 2047, 2048, 2049, 2050, 2000+d.IntN(100), d.IntN(9000))
	line := one(d, "stats", "set a 0 0 3", "get a", "set a x 0 3", "quitt", "y")
	if n > len(line) {
		line += strings.Repeat(one(d, " ", " ", "y", "\r"), n-len(line)-1) + one(d, " ", "\r", "y")
	}
	return line + "\n"
}

// part is one of the things that streams are made of.
func (d dice) part() string {
	switch d.IntN(10) {
	case 0, 1, 2:
		return d.withData()
	case 3:
		return d.longLine()
	case 4:
		return d.body(d.IntN(12))
	case 5:
		return one(d, "\n", "\r\n", "\r", "get a", "\r\r\n", "qui", "get a\rb\n", "quit\r\n")
	}
	return one(d, "get a", "get a b  c", "delete a", "delete a noreply", "touch a 5", "touch a -5 noreply", "stats", "version", "gets", "get", "touch a", " stats ", "\x00", "set a 0 0") + d.lineEnd()
}

// P8.1, P8.2, P8.3: many streams drawn at random, however they are cut, against the reckoning apart.
func TestManyStreams(t *testing.T) {
	d := newDice(1)
	seen := map[string]int{}
	for range 3000 {
		stream := ""
		for range 1 + d.IntN(one(d, 3, 6, 20)) {
			stream += d.part()
		}
		r := reckon(stream)
		if len(stream) < 500 {
			r.anyCut(t)
		} else {
			r.manyCuts(t)
		}
		for _, c := range r.cmds {
			seen[strconv.Itoa(c.Kind)+c.Reply]++
		}
		if r.moments[len(stream)].held > 0 {
			seen["held"]++
		}
	}
	for _, kind := range []string{"1", "2", "3", "4", "5", "6", "7", "8" + sayError, "8" + sayFormat, "8" + sayLarge, "8" + sayChunk, "8" + sayLong, "held"} {
		if seen[kind] < 200 {
			t.Errorf("%q came up %d times: the test tells little", kind, seen[kind])
		}
	}
}

// R2, R3: a piece is not kept: its memory may be written over when the call has answered. What was told is nobody's but the caller's.
func TestOwnMemory(t *testing.T) {
	stream := "get key other\r\nset key 1 2 5 noreply\r\nhello\r\ndelete key\nset key 0 0 3\nab\n\r\ntouch key 7\nset key 0 0 2\nxyz\nquit\n"
	r := reckon(stream)
	for _, size := range []int{1, 2, 3, 7, 20, 50, len(stream)} {
		f := New()
		var all []api.Cmd
		for at := 0; at < len(stream); at += size {
			piece := []byte(stream[at:min(len(stream), at+size)])
			got := f.Take(unsafe.String(&piece[0], len(piece)))
			for i := range piece {
				piece[i] = '#'
			}
			for _, c := range got {
				c.Keys = slices.Clone(c.Keys)
				all = append(all, c)
			}
			spoil(got)
		}
		if len(f.set.Keys) != 0 || f.set.Body != "" || cap(f.held) != 0 {
			t.Errorf("in pieces of %d: behind all it keeps %+v", size, f.set)
		}
		if !same(all, r.cmds) || !f.Over() {
			t.Errorf("in pieces of %d: %s, not %s", size, short(all), short(r.cmds))
		}
	}
}

// spoil writes over all that was told, spare room too.
func spoil(told []api.Cmd) {
	for _, c := range told[:cap(told)] {
		keys := c.Keys[:cap(c.Keys)]
		for i := range keys {
			keys[i] = "spoilt"
		}
	}
	clear(told[:cap(told)])
}

// P8.1: what a piece is handed over in stays as it is.
func TestPieceIsLeft(t *testing.T) {
	stream := "get a\r\nset b 0 0 2\r\nxy\r\n" + strings.Repeat("y", 3000)
	piece := []byte(stream)
	New().Take(unsafe.String(&piece[0], len(piece)))
	if string(piece) != stream {
		t.Errorf("%.100q", piece)
	}
}
