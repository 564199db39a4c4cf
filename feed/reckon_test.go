package feed

import (
	"fmt"
	"reflect"
	"regexp"
	"slices"
	"strconv"
	"strings"
	"testing"

	"tattler/api"
)

// The replies, written out apart from the program's.
const (
	sayError  = "ERROR\r\n"
	sayFormat = "CLIENT_ERROR bad command line format\r\n"
	sayLarge  = "SERVER_ERROR object too large for cache\r\n"
	sayChunk  = "CLIENT_ERROR bad data chunk\r\n"
	sayLong   = "CLIENT_ERROR line too long\r\n"
)

// moment is all that is to be told behind a stream's first bytes, as many as its place says: how many commands, and what Held and Over answer.
type moment struct {
	told, held int
	over       bool
}

// Lines' shapes, one blank between two words. Keys are held to their length, numbers to their size, apart.
var (
	firstShape  = regexp.MustCompile(`^(get|set|delete|touch|stats|version|quit)(?: |$)`)
	getShape    = regexp.MustCompile(`^get(?: [^\x00-\x20\x7f]+){1,16}$`)
	setShape    = regexp.MustCompile(`^set ([^\x00-\x20\x7f]+) ([0-9]{1,10}) (-?[0-9]{1,10}) ([0-9]{1,10})( noreply)?$`)
	deleteShape = regexp.MustCompile(`^delete ([^\x00-\x20\x7f]+)( noreply)?$`)
	touchShape  = regexp.MustCompile(`^touch ([^\x00-\x20\x7f]+) (-?[0-9]{1,10})( noreply)?$`)
	blanks      = regexp.MustCompile(` +`)
	dataShape   = regexp.MustCompile(`^set [^ ]+ [^ ]+ [^ ]+ ([0-9]{1,10})(?: [^ ]+)?$`)
)

func slowAmount(s string) int {
	n, err := strconv.ParseUint(s, 10, 32)
	if err != nil {
		return -1
	}
	return int(n)
}

func slowTime(s string) int64 {
	n, err := strconv.ParseInt(s, 10, 64)
	if err != nil {
		panic(err)
	}
	return n
}

func say(reply string) api.Cmd { return api.Cmd{Kind: 8, Reply: reply} }

// slowLine is what a line says, and the data behind it, by the shapes alone.
func slowLine(line string) (api.Cmd, int) {
	line = strings.Trim(blanks.ReplaceAllString(line, " "), " ")
	if !firstShape.MatchString(line) {
		return say(sayError), -1
	}
	data := -1
	if m := dataShape.FindStringSubmatch(line); m != nil {
		data = slowAmount(m[1])
	}
	if getShape.MatchString(line) {
		keys := strings.Split(line, " ")[1:]
		if !slices.ContainsFunc(keys, func(key string) bool { return len(key) > 250 }) {
			return api.Cmd{Kind: 1, Keys: keys}, -1
		}
	}
	if m := setShape.FindStringSubmatch(line); m != nil && len(m[1]) <= 250 && slowAmount(m[2]) >= 0 && data >= 0 {
		if data > 1024 {
			return say(sayLarge), data
		}
		return api.Cmd{Kind: 2, Keys: []string{m[1]}, Flags: uint32(slowAmount(m[2])), Exptime: slowTime(m[3]), Quiet: m[5] != ""}, data
	}
	if m := deleteShape.FindStringSubmatch(line); m != nil && len(m[1]) <= 250 {
		return api.Cmd{Kind: 3, Keys: []string{m[1]}, Quiet: m[2] != ""}, -1
	}
	if m := touchShape.FindStringSubmatch(line); m != nil && len(m[1]) <= 250 {
		return api.Cmd{Kind: 4, Keys: []string{m[1]}, Exptime: slowTime(m[2]), Quiet: m[3] != ""}, -1
	}
	if i := slices.Index([]string{"stats", "version", "quit"}, line); i >= 0 {
		return api.Cmd{Kind: 5 + i}, -1
	}
	return say(sayFormat), data
}

// reckoning has the whole stream ahead of it, and asks at which places lines, data and tails end: it reads no byte behind the other, and knows of no cuts.
type reckoning struct {
	stream  string
	cmds    []api.Cmd
	moments []moment
}

func reckon(stream string) reckoning {
	r := reckoning{stream: stream, moments: make([]moment, len(stream)+1)}
	for at := 0; at < len(stream); {
		at = r.line(at)
	}
	for i := 1; i < len(r.moments); i++ {
		r.moments[i].told += r.moments[i-1].told
		r.moments[i].over = r.moments[i].over || r.moments[i-1].over
	}
	return r
}

// tells has a command told when so many bytes are read; one that needs more bytes than there are isn't told.
func (r *reckoning) tells(at int, c api.Cmd) {
	if at <= len(r.stream) {
		r.cmds = append(r.cmds, c)
		r.moments[at].told++
	}
}

// feedAt is the place of the first line feed from at on; without one a place that the stream doesn't have.
func (r *reckoning) feedAt(at int) int {
	if at > len(r.stream) {
		return at
	}
	if i := strings.Index(r.stream[at:], "\n"); i >= 0 {
		return at + i
	}
	return len(r.stream)
}

// holds says of the bytes from at to (and with) end how many of them are held, when that many are read.
func (r *reckoning) holds(at, end, most int) {
	for i := at; i <= end && i <= len(r.stream); i++ {
		r.moments[i].held = min(i-at, most)
	}
}

// line is told from the place at on, with its data and its tail: the place of the next one.
func (r *reckoning) line(at int) int {
	end := r.feedAt(at)
	if end-at > 2048 {
		r.holds(at, at+2048, 2048)
		r.tells(at+2049, say(sayLong))
		return end + 1
	}
	r.holds(at, end, 2048)
	if end == len(r.stream) {
		return end
	}
	line := r.stream[at:end]
	if line != "" && line[len(line)-1] == 13 {
		line = line[:len(line)-1]
	}
	c, data := slowLine(line)
	if c.Kind != 2 {
		r.tells(end+1, c)
	}
	if c.Kind == 7 {
		r.moments[end+1].over = true
		return len(r.stream)
	}
	if data < 0 {
		return end + 1
	}
	return r.data(end+1, data, c)
}

func (r *reckoning) data(at, data int, c api.Cmd) int {
	end := r.feedAt(at + data)
	if c.Kind == 8 {
		return end + 1
	}
	r.holds(at, end, data)
	if end >= len(r.stream) {
		return end + 1
	}
	if r.stream[at+data:end+1] == "\r\n" {
		c.Body = r.stream[at : at+data]
		r.tells(end+1, c)
	} else {
		r.tells(end+1, say(sayChunk))
	}
	return end + 1
}

func same(a, b []api.Cmd) bool {
	return slices.EqualFunc(a, b, func(x, y api.Cmd) bool {
		if !slices.Equal(x.Keys, y.Keys) {
			return false
		}
		x.Keys, y.Keys = nil, nil
		return reflect.DeepEqual(x, y)
	})
}

// short is what a test prints of what may be very long.
func short(v any) string {
	s := fmt.Sprintf("%+v", v)
	return fmt.Sprintf("%q", s[:min(len(s), 400)])
}

// follows cuts a stream at the places (which rise; one may stand there twice: an empty piece), and lays what is told behind each piece against the reckoning.
func (r *reckoning) follows(t *testing.T, places []int) {
	t.Helper()
	f := New()
	at := 0
	for _, to := range append(places, len(r.stream)) {
		got := f.Take(r.stream[at:to])
		now := r.moments[to]
		if want := r.cmds[r.moments[at].told:now.told]; !same(got, want) {
			t.Fatalf("%s, cut at %s: from %d to %d it told %s, not %s", short(r.stream), short(places), at, to, short(got), short(want))
		}
		if f.Held() != now.held || f.Over() != now.over {
			t.Fatalf("%s, cut at %s: behind %d bytes it holds %d (over: %v), not %d (%v)", short(r.stream), short(places), to, f.Held(), f.Over(), now.held, now.over)
		}
		at = to
	}
}

// everyPlace is the places of a stream that is handed over byte by byte.
func everyPlace(stream string) []int {
	var l []int
	for i := range len(stream) {
		l = append(l, i)
	}
	return l
}

// isTold lays a stream against what it is to tell in all, however it is cut; and the reckoning, too.
func isTold(t *testing.T, stream string, want ...api.Cmd) reckoning {
	t.Helper()
	r := reckon(stream)
	if !same(r.cmds, want) {
		t.Fatalf("%s by the reckoning: %s, not %s", short(stream), short(r.cmds), short(want))
	}
	r.anyCut(t)
	return r
}

// anyCut hands a stream over cut in two at every place, and in all ways of manyCuts.
func (r *reckoning) anyCut(t *testing.T) {
	t.Helper()
	for i := range len(r.stream) + 1 {
		r.follows(t, []int{i})
	}
	r.manyCuts(t)
}

// manyCuts hands a stream over at once, byte by byte, so with an empty piece ahead of each, and cut at drawn places.
func (r *reckoning) manyCuts(t *testing.T) {
	t.Helper()
	places := everyPlace(r.stream)
	r.follows(t, nil)
	r.follows(t, places)
	r.follows(t, slices.Sorted(slices.Values(slices.Repeat(places, 2))))
	d := newDice(uint64(len(r.stream)))
	for range 20 {
		r.follows(t, d.places(len(r.stream)))
		r.follows(t, []int{d.IntN(len(r.stream) + 1)})
	}
}
