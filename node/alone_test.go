package node

import (
	"fmt"
	"maps"
	"math/bits"
	"slices"
	"strings"
	"testing"

	"tattler/api"
)

// slowMix, slowText and slowRange follow chapter 1's words, apart from package mix.
func slowMix(x uint64) uint64 {
	x ^= x / (1 << 30)
	_, x = bits.Mul64(x, 0xBF58476D1CE4E5B9)
	x ^= x / (1 << 27)
	_, x = bits.Mul64(x, 0x94D049BB133111EB)
	return x ^ x/(1<<31)
}

func slowRange(s string) uint64 {
	h := uint64(0x9E3779B97F4A7C15)
	for _, b := range []byte(s) {
		h = slowMix(h ^ uint64(b))
	}
	return slowMix(h^uint64(len(s))) / (1 << 58)
}

// cache is a node alone, reckoned apart from the program and from all layers: a row of records, the one used longest ago first.
type cache struct {
	c      api.Conf
	id     uint8
	time   uint64
	rests  bool
	until  uint64 // if it rests: up to this time no stamp is given
	last   api.Stamp
	row    []api.Rec
	floors map[uint64]api.Stamp
	gone   int
	hints  map[string]api.Rec // of writes that found no room, till the next tick
	counts [10]uint64         // gets, hits, sets, deletes, touches, stored, lost, refused, frames, bad
	wrote  []api.Rec
}

func newCache(c api.Conf, id uint8, time uint64, rest bool) *cache {
	a := &cache{c: c, id: id, time: time, floors: map[uint64]api.Stamp{}, hints: map[string]api.Rec{}}
	a.rests, a.until = rest, time+uint64(c.Drift)
	return a
}

func (a *cache) at(key string) int {
	return slices.IndexFunc(a.row, func(r api.Rec) bool { return r.Key == key })
}

func (a *cache) bytes() int {
	n := 0
	for _, r := range a.row {
		n += len(r.Key) + len(r.Body)
	}
	return n
}

// put puts a record in, which is of this life and so behind what there is of its key, unless that was written since.
func (a *cache) put(r api.Rec) bool {
	if len(r.Key)+len(r.Body) > a.c.Bytes {
		return false
	}
	if i := a.at(r.Key); i >= 0 {
		a.row = slices.Delete(a.row, i, i+1)
	}
	for len(a.row) == a.c.Slots || a.bytes()+len(r.Key)+len(r.Body) > a.c.Bytes {
		out := a.row[0]
		k := slowRange(out.Key)
		if ahead(a.floors[k], out.Stamp) {
			a.floors[k] = out.Stamp
		}
		a.row = a.row[1:]
		a.gone++
	}
	a.row = append(a.row, r)
	return true
}

// live uses a key's record, and tells whether it is a value that isn't over.
func (a *cache) live(key string) (api.Rec, bool) {
	i := a.at(key)
	if i < 0 {
		return api.Rec{}, false
	}
	r := a.row[i]
	a.row = append(slices.Delete(a.row, i, i+1), r)
	return r, r.Kind == 3 && (r.Expiry == 0 || r.Expiry > a.time)
}

func (a *cache) write(r api.Rec, done string) string {
	if a.rests && a.time <= a.until {
		a.counts[7]++
		return "SERVER_ERROR busy\r\n"
	}
	if a.time > a.last.Phys {
		a.last = api.Stamp{Phys: a.time, Node: a.id}
	} else {
		a.last = api.Stamp{Phys: a.last.Phys, Logical: a.last.Logical + 1, Node: a.id}
	}
	r.Stamp = a.last
	if _, there := a.hints[r.Key]; !there && len(a.hints) == a.c.Hints {
		a.counts[7]++
		return "SERVER_ERROR busy\r\n"
	}
	a.wrote = append(a.wrote, r)
	if a.put(r) {
		delete(a.hints, r.Key)
		a.counts[5]++
		return done
	}
	a.hints[r.Key] = api.Rec{Key: r.Key, Stamp: r.Stamp, Kind: 1}
	if r.Kind == 2 {
		a.hints[r.Key] = r
	}
	a.counts[6]++
	return "SERVER_ERROR no owner answered\r\n"
}

func (a *cache) over(exptime int64) uint64 {
	switch {
	case exptime == 0:
		return 0
	case exptime < 0:
		return max(1, a.time)
	case a.time+uint64(exptime) > 1<<48-1:
		return 1<<48 - 1
	}
	return a.time + uint64(exptime)
}

func (a *cache) set(key string, flags uint32, exptime int64, body string) string {
	a.counts[2]++
	return a.write(api.Rec{Key: key, Kind: 3, Flags: flags, Expiry: a.over(exptime), Body: body}, "STORED\r\n")
}

func (a *cache) get(keys []string) string {
	s := ""
	for _, key := range keys {
		a.counts[0]++
		if r, live := a.live(key); live {
			a.counts[1]++
			s += fmt.Sprintf("VALUE %s %d %d\r\n%s\r\n", key, r.Flags, len(r.Body), r.Body)
		}
	}
	return s + "END\r\n"
}

func (a *cache) drop(key string) string {
	a.counts[3]++
	if _, live := a.live(key); !live {
		return "NOT_FOUND\r\n"
	}
	return a.write(api.Rec{Key: key, Kind: 2}, "DELETED\r\n")
}

func (a *cache) touch(key string, exptime int64) string {
	a.counts[4]++
	r, live := a.live(key)
	if !live {
		return "NOT_FOUND\r\n"
	}
	r.Expiry = a.over(exptime)
	return a.write(r, "TOUCHED\r\n")
}

func (a *cache) stats() string {
	s := ""
	for i, name := range strings.Fields("gets hits sets deletes touches stored lost refused frames bad") {
		s += fmt.Sprintf("STAT %s %d\r\n", name, a.counts[i])
	}
	return s + "END\r\n"
}

// tick purges what is old; what found no room leaves a trace where it is written of.
func (a *cache) tick() {
	a.time = min(a.time+1, 1<<48-1)
	old := func(r api.Rec) bool { return r.Stamp.Phys+uint64(a.c.Keep) <= a.time }
	a.row = slices.DeleteFunc(a.row, old)
	for _, key := range slices.Sorted(maps.Keys(a.hints)) {
		r, i := a.hints[key], a.at(key)
		covered := old(r) || i < 0 && !ahead(a.floors[slowRange(key)], r.Stamp)
		if covered || a.put(r) {
			delete(a.hints, key)
		}
	}
}

func (a *cache) sizes() api.Sizes {
	return api.Sizes{Records: len(a.row), Bytes: a.bytes(), Hints: len(a.hints), Evicted: a.gone}
}

// loner is a node alone, and the cache against which it is held.
type loner struct {
	t    *testing.T
	n    *Node
	a    *cache
	said []string // of each session, by the cache
	got  []string
	log  []string
}

func newLoner(t *testing.T, c api.Conf, time uint64, rest bool) *loner {
	t.Helper()
	n, e := New(c, 0, time, rest)
	if e != api.OK {
		t.Fatalf("%+v, %d: %d", c, time, e)
	}
	return &loner{t: t, n: n, a: newCache(c, 0, time, rest), said: make([]string, c.Sessions), got: make([]string, c.Sessions)}
}

func (l *loner) hand(session int, s string) {
	l.t.Helper()
	l.log = append(l.log, fmt.Sprintf("%d %.100q", session, s))
	if out, e := l.n.Client(session, s); e != api.OK || len(out) != 0 {
		l.t.Fatalf("%q: %d, %d frames", l.log, e, len(out))
	}
}

func (l *loner) tick(draw uint64) {
	l.t.Helper()
	l.log = append(l.log, "tick")
	if out := l.n.Tick(draw); len(out) != 0 {
		l.t.Fatalf("%q: %d frames", l.log, len(out))
	}
	l.a.tick()
}

func (l *loner) frame(s string) {
	l.t.Helper()
	if out := l.n.Receive(s); len(out) != 0 {
		l.t.Fatalf("%q: %d frames", l.log, len(out))
	}
	l.a.counts[8]++
	l.a.counts[9]++
}

// same holds all that the node tells against the cache.
func (l *loner) same(keys []string) {
	l.t.Helper()
	for i := range l.said {
		l.got[i] += l.n.Replies(i)
		if l.got[i] != l.said[i] {
			l.t.Fatalf("%+v: session %d: %q, not %q\nbehind %q", l.a.c, i, tail(l.got[i]), tail(l.said[i]), l.log[max(0, len(l.log)-15):])
		}
	}
	if got, want := l.n.Sizes(), l.a.sizes(); got != want || l.n.Time() != l.a.time {
		l.t.Fatalf("%+v: sizes %+v, not %+v; time %d, not %d\nbehind %q", l.a.c, got, want, l.n.Time(), l.a.time, l.log[max(0, len(l.log)-15):])
	}
	for _, key := range keys {
		var want api.Rec
		i := l.a.at(key)
		if i >= 0 {
			want = l.a.row[i]
		}
		if r, some := l.n.Record(key); r != want || some != (i >= 0) {
			l.t.Fatalf("%+v: %q: %+v, not %+v\nbehind %q", l.a.c, key, r, want, l.log[max(0, len(l.log)-15):])
		}
	}
}

func (l *loner) wrote() {
	l.t.Helper()
	if got := l.n.Wrote(); !slices.Equal(got, l.a.wrote) {
		l.t.Fatalf("%q: %v, not %v", l.log, got, l.a.wrote)
	}
	l.a.wrote = nil
}

func tail(s string) string { return s[max(0, len(s)-300):] }

// line is what a client says, and what the cache does and answers.
type line struct {
	text  string
	quiet bool
	does  func(a *cache) string
}

func says(reply string) func(*cache) string { return func(*cache) string { return reply } }

// badLines are lines and data that are none, and their answers.
func badLines() []line {
	long := strings.Repeat("q", 2049)
	form, chunk := "CLIENT_ERROR bad command line format\r\n", "CLIENT_ERROR bad data chunk\r\n"
	large := "SERVER_ERROR object too large for cache\r\n"
	return []line{
		{text: "\n", does: says("ERROR\r\n")},
		{text: "   \r\n", does: says("ERROR\r\n")},
		{text: "gets a\r\n", does: says("ERROR\r\n")},
		{text: "\x00\xff\r\r\n", does: says("ERROR\r\n")},
		{text: "get\r\n", does: says(form)},
		{text: "get a b c d e f g h i j k l m n o p q\r\n", does: says(form)},
		{text: "get " + strings.Repeat("k", 251) + "\r\n", does: says(form)},
		{text: "stats a\r\n", does: says(form)},
		{text: "quit noreply\r\n", does: says(form)},
		{text: "touch a\r\n", does: says(form)},
		{text: "delete a b\r\n", does: says(form)},
		{text: "set a 4294967296 0 3\r\nget\r\n", does: says(form)},
		{text: "set a 0 0 1025\r\n" + strings.Repeat("\n", 1025) + "\r\n", does: says(large)},
		{text: "set a 0 0 2\r\nabc\r\n", does: says(chunk)},
		{text: "set a 0 0 2 noreply\r\n\r\nx\r\n", does: says(chunk)},
		{text: "set a 0 0 1\r\nx\n", does: says(chunk)},
		{text: long + "\r\n", does: says("CLIENT_ERROR line too long\r\n")},
	}
}

func (d dice) exptime() int64 {
	return one[int64](d, 0, 0, 0, 1, 2, 5, -1, -7, 1000, 9999999999, -9999999999)
}

// line draws what a client says of these keys.
func (d dice) line(keys []string, most int) line {
	key, exptime := one(d, keys...), d.exptime()
	word, end := "", "\r\n"
	quiet := d.IntN(6) == 0
	if quiet {
		word = " noreply"
	}
	if d.IntN(8) == 0 {
		end = "\n"
	}
	switch p := d.IntN(100); {
	case p < 35:
		l := make([]string, 1+d.IntN(4))
		for i := range l {
			l[i] = one(d, keys...)
		}
		return line{text: "get " + strings.Join(l, strings.Repeat(" ", 1+d.IntN(2))) + end, does: func(a *cache) string { return a.get(l) }}
	case p < 70:
		flags, body := uint32(d.upTo(1<<32-1)), d.body(most)
		text := fmt.Sprintf("set %s %d %d %d%s%s%s\r\n", key, flags, exptime, len(body), word, end, body)
		return line{text, quiet, func(a *cache) string { return a.set(key, flags, exptime, body) }}
	case p < 79:
		return line{"delete " + key + word + end, quiet, func(a *cache) string { return a.drop(key) }}
	case p < 88:
		return line{fmt.Sprintf(" touch %s %d%s%s", key, exptime, word, end), quiet, func(a *cache) string { return a.touch(key, exptime) }}
	case p < 91:
		return line{text: "stats" + end, does: (*cache).stats}
	case p < 93:
		return line{text: "version" + end, does: says("VERSION tattler 1\r\n")}
	}
	return one(d, badLines()...)
}

func (d dice) body(most int) string {
	b := make([]byte, d.IntN(most+1))
	for i := range b {
		b[i] = byte(one(d, 'x', 'y', '\r', '\n', ' ', d.IntN(256)))
	}
	return string(b)
}

// aloneConf draws bounds, small ones more often.
func (d dice) aloneConf() api.Conf {
	return api.Conf{
		Nodes: 1, Slots: one(d, 1, 2, 3, 5, 8, 20, 1024), Bytes: one(d, 1, 4, 12, 30, 80, 400, 5000, 1<<20),
		Hints: one(d, 1, 2, 3, 64), Sessions: one(d, 1, 2, 3, 8), Drift: one(d, 0, 1, 5, 1000),
		Keep: one(d, 1, 2, 5, 20, 1000), Suspect: one(d, 1, 1000), Wait: one(d, 1, 3, 1000),
	}
}

// P24.2, P24.1, P24.4: drawn lines, cut anywhere, at drawn bounds, against a cache that is reckoned apart, to the last byte.
func TestAloneDrawn(t *testing.T) {
	reached := map[string]int{}
	for seed := range uint64(400) {
		d := newDice(seed)
		c := d.aloneConf()
		start := one[uint64](d, 0, 0, 1, 10, 1<<40, api.MaxTime-8, api.MaxTime)
		l := newLoner(t, c, start, d.IntN(4) == 0)
		keys := []string{"a", "b", "cc", "dd", "eee", "long-key-of-19-bytes", strings.Repeat("k", 250)}[:2+d.IntN(6)]
		most := one(d, 3, 10, 60, 1024)
		rest := make([]string, c.Sessions) // that wasn't handed over yet
		due := make([][]line, c.Sessions)  // whose last byte wasn't
		for range 150 {
			l.step(d, keys, most, rest, due)
			l.same(keys)
		}
		l.wrote()
		for i, n := range l.a.counts {
			reached[fmt.Sprint("count ", i)] += int(n)
		}
		reached["gone"] += l.a.gone
		reached["hints"] += len(l.a.hints)
	}
	for i := range 10 {
		if name := fmt.Sprint("count ", i); reached[name] < 50 {
			t.Errorf("%s: %d: the rows tell little", name, reached[name])
		}
	}
	if reached["gone"] < 50 || reached["hints"] < 10 {
		t.Errorf("%v: the rows tell little", reached)
	}
}

func (l *loner) step(d dice, keys []string, most int, rest []string, due [][]line) {
	l.t.Helper()
	switch p := d.IntN(100); {
	case p < 80:
		i := d.IntN(len(rest))
		for range d.IntN(4) {
			x := d.line(keys, most)
			rest[i] += x.text
			due[i] = append(due[i], x)
		}
		s := rest[i][:d.IntN(len(rest[i])+1)]
		s = s[:min(len(s), 4096)]
		rest[i] = rest[i][len(s):]
		l.hand(i, s)
		l.answer(i, len(rest[i]), due)
	case p < 95:
		l.tick(d.Uint64())
	case p < 97:
		l.frame(d.body(40))
	default:
		l.wrote()
	}
}

// answer lets the cache do the lines that are handed over in full: of those that are left so many bytes are still to come.
func (l *loner) answer(i, left int, due [][]line) {
	for len(due[i]) > 0 {
		behind := 0
		for _, x := range due[i][1:] {
			behind += len(x.text)
		}
		x := due[i][0]
		open := left - behind // bytes of this line that are still to come
		if open > 0 && !(open <= len(x.text)-2049 && strings.HasPrefix(x.text, "qqq")) && !x.early(open) {
			return
		}
		if x.does != nil {
			if reply := x.does(l.a); !x.quiet {
				l.said[i] += reply
			}
			x.does = nil
			due[i][0] = x
		}
		if open > 0 {
			return
		}
		due[i] = due[i][1:]
	}
}

// early tells whether a line is answered though bytes of its data are still to come: one that is bad by itself.
func (x line) early(open int) bool {
	head := strings.IndexByte(x.text, '\n') + 1
	bad := strings.HasPrefix(x.text, "set a 4294967296") || strings.HasPrefix(x.text, "set a 0 0 1025")
	return bad && len(x.text)-open >= head
}
