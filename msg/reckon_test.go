package msg

import (
	"encoding/binary"
	"fmt"
	"hash/crc32"
	"math"
	"math/rand/v2"
	"slices"
	"strings"
	"testing"

	"tattler/api"
)

// The limits, written out apart from the program's.
const (
	lastTime  = 281474976710655
	lastWord  = 4294967295
	lastNode  = 63
	mostItems = 4096
	longest   = 1048576
	aboveAll  = 1 << 62
)

// number is a number's bytes by layer 3's words; one from 2^62 on has none.
func number(n uint64) string {
	switch {
	case n < 64:
		return string([]byte{byte(n)})
	case n < 16384:
		return string(binary.BigEndian.AppendUint16(nil, uint16(n+16384)))
	case n < 1073741824:
		return string(binary.BigEndian.AppendUint32(nil, uint32(n+2147483648)))
	}
	return string(binary.BigEndian.AppendUint64(nil, n+3<<62))
}

// wide is a number in so many bytes, whether fewer would hold it or not.
func wide(n uint64, size int) string {
	b := binary.BigEndian.AppendUint64(nil, n)[8-size:]
	b[0] += map[int]byte{1: 0, 2: 64, 4: 128, 8: 192}[size]
	return string(b)
}

func text(t string) string { return number(uint64(len(t))) + t }

// part is a number or a text of a body, by its place and its name.
type part struct {
	name  string
	bytes string
	words string // of a text, what its bytes tell
	// least and most bound a number; of a text most is how many bytes it may have.
	least, most uint64
	text        bool
	count       bool // how many of something follow
	inRec       bool // of a record: layer 6 says what may be, and when that is told
}

// parts are all numbers and texts of a message, one behind the other, whether it may be or not.
func parts(m api.Msg) []part {
	var l []part
	num := func(name string, n, least, most uint64) {
		l = append(l, part{name: name, bytes: number(n), least: least, most: most})
	}
	count := func(name string, n int) {
		l = append(l, part{name: "how many " + name, bytes: number(uint64(n)), most: mostItems, count: true})
	}
	key := func(name, t string) {
		l = append(l, part{name: name, bytes: text(t), words: t, most: 250, text: true})
	}
	num("Id", uint64(m.Id), 0, lastWord)
	num("Target", uint64(m.Target), 0, lastNode)
	num("Range", uint64(m.Range), 0, 63)
	num("Flag", map[bool]uint64{true: 1}[m.Flag], 0, 1)
	count("News", len(m.News))
	for _, x := range m.News {
		num("News' Node", uint64(x.Node), 0, lastNode)
		num("News' State", uint64(x.Member.State), 1, 4)
		num("News' Inc", uint64(x.Member.Inc), 0, lastWord)
	}
	count("Keys", len(m.Keys))
	for _, k := range m.Keys {
		key("Key", k)
	}
	count("Recs", len(m.Recs))
	for _, r := range m.Recs {
		l = append(l, recParts(r)...)
	}
	count("Seen", len(m.Seen))
	for _, x := range m.Seen {
		key("Seen's Key", x.Key)
		num("Seen's Phys", x.Stamp.Phys, 0, lastTime)
		num("Seen's Logical", uint64(x.Stamp.Logical), 0, lastWord)
		num("Seen's Node", uint64(x.Stamp.Node), 0, lastNode)
		num("Seen's Kind", uint64(x.Kind), 1, 3)
	}
	count("Digests", len(m.Digests))
	for _, d := range m.Digests {
		num("Digest's high half", d/(lastWord+1), 0, lastWord)
		num("Digest's low half", d%(lastWord+1), 0, lastWord)
	}
	return l
}

func recParts(r api.Rec) []part {
	field := func(name string, n, most uint64) part {
		return part{name: "Rec's " + name, bytes: number(n), most: most, inRec: true}
	}
	l := []part{
		{name: "Rec's Key", bytes: text(r.Key), words: r.Key, most: 250, text: true, inRec: true},
		field("Phys", r.Stamp.Phys, math.MaxUint64),
		field("Logical", uint64(r.Stamp.Logical), lastWord),
		field("Node", uint64(r.Stamp.Node), 255),
		field("Kind", uint64(r.Kind), 255),
	}
	if r.Kind != 3 {
		return l
	}
	return append(l, field("Flags", uint64(r.Flags), lastWord), field("Expiry", r.Expiry, math.MaxUint64),
		part{name: "Rec's Body", bytes: text(r.Body), words: r.Body, most: 1024, text: true, inRec: true})
}

// joined is the body of these parts.
func joined(l []part) string {
	var b strings.Builder
	for _, p := range l {
		b.WriteString(p.bytes)
	}
	return b.String()
}

func body(m api.Msg) string { return joined(parts(m)) }

// framed is a body in a frame by layer 4's words, with its right sum, whatever stands in it.
func framed(kind, from, to uint8, body string) string {
	b := binary.BigEndian.AppendUint32([]byte{1, kind, from, to}, uint32(len(body)))
	b = append(b, body...)
	return string(binary.BigEndian.AppendUint32(b, crc32.ChecksumIEEE(b)))
}

// sealed is a body in a frame in which nothing else is wrong.
func sealed(body string) string { return framed(9, 4, 7, body) }

func slowKeyMay(key string) bool {
	for _, b := range []byte(key) {
		if b < 33 || b == 127 {
			return false
		}
	}
	return key != "" && len(key) < 251
}

func slowRecMay(r api.Rec) bool {
	if !slowKeyMay(r.Key) || r.Stamp.Phys > lastTime || r.Stamp.Node > lastNode {
		return false
	}
	if r.Kind == 3 {
		return r.Expiry <= lastTime && len(r.Body) < 1025
	}
	return (r.Kind == 1 || r.Kind == 2) && r == api.Rec{Key: r.Key, Stamp: r.Stamp, Kind: r.Kind}
}

// slowMay goes through the chapter's words, and leaves with the first one that doesn't hold.
func slowMay(m api.Msg) bool {
	if m.Kind == 0 || m.Kind > 14 {
		return false
	}
	if slices.Max([]uint8{m.From, m.To, m.Target, m.Range}) > 63 {
		return false
	}
	if slices.Max([]int{len(m.News), len(m.Keys), len(m.Recs), len(m.Seen), len(m.Digests)}) > mostItems {
		return false
	}
	for _, x := range m.News {
		if x.Node > lastNode || x.Member.State == 0 || x.Member.State > 4 {
			return false
		}
	}
	for _, key := range m.Keys {
		if !slowKeyMay(key) {
			return false
		}
	}
	for _, r := range m.Recs {
		if !slowRecMay(r) {
			return false
		}
	}
	for _, x := range m.Seen {
		// It may be, if the Marker or Tomb or the Value of it may be.
		if !slowRecMay(api.Rec{Key: x.Key, Stamp: x.Stamp, Kind: x.Kind}) {
			return false
		}
	}
	return true
}

func slowPack(m api.Msg) (string, api.Errno) {
	if !slowMay(m) {
		return "", api.ErrArg
	}
	b := body(m)
	if len(b) > longest {
		return "", api.ErrLong
	}
	return framed(m.Kind, m.From, m.To, b), api.OK
}

// slowFrame is layer 4's row of errors, and the body.
func slowFrame(s string) (string, api.Errno) {
	if len(s) < 12 {
		return "", api.ErrShort
	}
	if s[0] != 1 || s[1] == 0 || s[1] > 14 || s[2] > 63 || s[3] > 63 {
		return "", api.ErrForm
	}
	size := int(binary.BigEndian.Uint32([]byte(s[4:8])))
	switch {
	case size > longest:
		return "", api.ErrLong
	case len(s) < size+12:
		return "", api.ErrShort
	case len(s) > size+12:
		return "", api.ErrForm
	case binary.BigEndian.Uint32([]byte(s[8+size:])) != crc32.ChecksumIEEE([]byte(s[:8+size])):
		return "", api.ErrSum
	}
	return s[8 : 8+size], api.OK
}

// eater takes numbers and texts off a body's front; behind the first fault it takes nothing any more.
type eater struct {
	left  string
	fault api.Errno
}

func (x *eater) fail(e api.Errno) {
	if x.fault == api.OK {
		x.fault = e
	}
}

func (x *eater) bytes(n uint64) string {
	if x.fault == api.OK && n > uint64(len(x.left)) {
		x.fail(api.ErrShort)
	}
	if x.fault != api.OK {
		return ""
	}
	s := x.left[:n]
	x.left = x.left[n:]
	return s
}

func (x *eater) number(least, most uint64) uint64 {
	first := x.bytes(1)
	if x.fault != api.OK {
		return 0
	}
	b := []byte(first + x.bytes([]uint64{0, 1, 3, 7}[first[0]/64]))
	var n uint64
	for i, c := range b {
		if i == 0 {
			c %= 64
		}
		n = n*256 + uint64(c)
	}
	if x.fault == api.OK && (number(n) != string(b) || n < least || n > most) {
		x.fail(api.ErrForm)
	}
	if x.fault != api.OK {
		return 0
	}
	return n
}

func (x *eater) text(most uint64) string {
	size := x.number(0, math.MaxUint64)
	if size > most {
		x.fail(api.ErrLong)
	}
	return x.bytes(size)
}

func (x *eater) key() string {
	key := x.text(250)
	if !slowKeyMay(key) {
		x.fail(api.ErrForm)
	}
	return key
}

func (x *eater) rec() api.Rec {
	r := api.Rec{Key: x.text(250)}
	r.Stamp.Phys = x.number(0, math.MaxUint64)
	r.Stamp.Logical = uint32(x.number(0, lastWord))
	r.Stamp.Node = uint8(x.number(0, 255))
	r.Kind = uint8(x.number(0, 255))
	if r.Kind == 3 {
		r.Flags = uint32(x.number(0, lastWord))
		r.Expiry = x.number(0, math.MaxUint64)
		r.Body = x.text(1024)
	}
	if !slowRecMay(r) {
		x.fail(api.ErrForm)
	}
	return r
}

// slowUnpack reads all there is, one behind the other, and asks in the end what was the first fault.
func slowUnpack(s string) (api.Msg, api.Errno) {
	b, e := slowFrame(s)
	if e != api.OK {
		return api.Msg{}, e
	}
	x := &eater{left: b}
	m := api.Msg{Kind: s[1], From: s[2], To: s[3]}
	m.Id = uint32(x.number(0, lastWord))
	m.Target = uint8(x.number(0, lastNode))
	m.Range = uint8(x.number(0, 63))
	m.Flag = x.number(0, 1) > 0
	for range x.number(0, mostItems) {
		n := api.News{Node: uint8(x.number(0, lastNode))}
		n.Member.State = uint8(x.number(1, 4))
		n.Member.Inc = uint32(x.number(0, lastWord))
		m.News = append(m.News, n)
	}
	for range x.number(0, mostItems) {
		m.Keys = append(m.Keys, x.key())
	}
	for range x.number(0, mostItems) {
		m.Recs = append(m.Recs, x.rec())
	}
	for range x.number(0, mostItems) {
		n := api.Seen{Key: x.key()}
		n.Stamp.Phys = x.number(0, lastTime)
		n.Stamp.Logical = uint32(x.number(0, lastWord))
		n.Stamp.Node = uint8(x.number(0, lastNode))
		n.Kind = uint8(x.number(1, 3))
		m.Seen = append(m.Seen, n)
	}
	for range x.number(0, mostItems) {
		high := x.number(0, lastWord)
		m.Digests = append(m.Digests, high<<32|x.number(0, lastWord))
	}
	if x.left != "" {
		x.fail(api.ErrForm)
	}
	if x.fault != api.OK {
		return api.Msg{}, x.fault
	}
	return m, api.OK
}

// same tells whether two messages are the same; a list without elements may be nil or empty.
func same(a, b api.Msg) bool {
	return a.Kind == b.Kind && a.From == b.From && a.To == b.To && a.Id == b.Id && a.Target == b.Target && a.Range == b.Range && a.Flag == b.Flag &&
		slices.Equal(a.News, b.News) && slices.Equal(a.Keys, b.Keys) && slices.Equal(a.Recs, b.Recs) && slices.Equal(a.Seen, b.Seen) && slices.Equal(a.Digests, b.Digests)
}

// short is what is fit to be told of something long.
func short(x any) string {
	s := strings.ToValidUTF8(fmt.Sprintf("%+v", x), "?")
	if t, ok := x.(string); ok {
		s = fmt.Sprintf("%q", t)
	}
	if len(s) > 400 {
		return s[:400] + ".."
	}
	return s
}

// checkPack holds what Pack answers against the reckoning.
func checkPack(t *testing.T, c *Codec, m api.Msg) (string, api.Errno) {
	t.Helper()
	s, e := c.Pack(m)
	if want, wantE := slowPack(m); s != want || e != wantE {
		t.Fatalf("Pack(%s): %s, %d, not %s, %d", short(m), short(s), e, short(want), wantE)
	}
	return s, e
}

// checkUnpack holds what Unpack answers against the reckoning; what is read must be packed as the very frame (P22.2).
func checkUnpack(t *testing.T, c *Codec, s string) (api.Msg, api.Errno) {
	t.Helper()
	m, e := c.Unpack(s)
	if want, wantE := slowUnpack(s); !same(m, want) || e != wantE {
		t.Fatalf("Unpack(%s) of %d bytes: %s, %d, not %s, %d", short(s), len(s), short(m), e, short(want), wantE)
	}
	if e != api.OK {
		return m, e
	}
	if again, e := c.Pack(m); again != s || e != api.OK {
		t.Fatalf("%s is read as %s, and that is packed as %s, %d", short(s), short(m), short(again), e)
	}
	return m, e
}

// packs checks a message that may be by what its body is said to be, there and back.
func packs(t *testing.T, name string, m api.Msg, body string) {
	t.Helper()
	want := framed(m.Kind, m.From, m.To, body)
	if s, e := New().Pack(m); s != want || e != api.OK {
		t.Errorf("%s: Pack(%s): %s, %d, not %s", name, short(m), short(s), e, short(want))
	}
	if got, e := New().Unpack(want); !same(got, m) || e != api.OK {
		t.Errorf("%s: Unpack(%s): %s, %d, not %s", name, short(want), short(got), e, short(m))
	}
	checkPack(t, New(), m)
	checkUnpack(t, New(), want)
}

// unpackable checks that a message is answered an error, and nothing beside it.
func unpackable(t *testing.T, name string, m api.Msg, want api.Errno) {
	t.Helper()
	if s, e := New().Pack(m); s != "" || e != want {
		t.Errorf("%s: Pack(%s): %s, %d, not %d", name, short(m), short(s), e, want)
	}
	if _, e := slowPack(m); e != want {
		t.Errorf("%s: reckoned: %d, not %d", name, e, want)
	}
}

// refused checks that bytes are answered an error, and the zero message beside it.
func refused(t *testing.T, name, s string, want api.Errno) {
	t.Helper()
	if m, e := New().Unpack(s); !same(m, api.Msg{}) || e != want {
		t.Errorf("%s: Unpack(%s) of %d bytes: %s, %d, not %d", name, short(s), len(s), short(m), e, want)
	}
	if _, e := slowUnpack(s); e != want {
		t.Errorf("%s: reckoned: %d, not %d", name, e, want)
	}
}

// dice draws what tests are made of: always the same, so that a test fails each time or never.
type dice struct{ *rand.Rand }

func newDice(seed uint64) dice { return dice{rand.New(rand.NewPCG(seed, 22))} }

func one[T any](d dice, l ...T) T { return l[d.IntN(len(l))] }

func (d dice) key() string {
	b := make([]byte, one(d, 1, 1, 2, 3, 5, 63, 64, 249, 250))
	for i := range b {
		for b[i] <= 32 || b[i] == 127 {
			b[i] = one(d, byte(33), 126, 128, 255, 'a', 'b', byte(d.IntN(256)))
		}
	}
	return string(b)
}

func (d dice) word() uint32 {
	return one(d, uint32(0), 1, 2, 63, 64, 16383, 16384, 1073741823, 1073741824, lastWord-1, lastWord, d.Uint32())
}

func (d dice) time() uint64 {
	return one(d, uint64(0), 1, 63, 64, 16383, 16384, 1073741823, 1073741824, lastTime-1, lastTime, d.Uint64N(lastTime+1))
}

func (d dice) node() uint8 { return one(d, uint8(0), 1, 62, 63, uint8(d.IntN(64))) }

func (d dice) stamp() api.Stamp {
	return api.Stamp{Phys: d.time(), Logical: d.word(), Node: d.node()}
}

func (d dice) news() api.News {
	return api.News{Node: d.node(), Member: api.Member{State: uint8(1 + d.IntN(4)), Inc: d.word()}}
}

func (d dice) rec() api.Rec {
	r := api.Rec{Key: d.key(), Stamp: d.stamp(), Kind: uint8(1 + d.IntN(3))}
	if r.Kind != 3 {
		return r
	}
	b := make([]byte, one(d, 0, 1, 2, 3, 63, 64, 1023, 1024))
	for i := range b {
		b[i] = one(d, byte(0), 10, 127, 128, 255, byte(d.IntN(256)))
	}
	r.Flags, r.Expiry, r.Body = d.word(), d.time(), string(b)
	return r
}

func (d dice) seen() api.Seen {
	return api.Seen{Key: d.key(), Stamp: d.stamp(), Kind: uint8(1 + d.IntN(3))}
}

func (d dice) digest() uint64 {
	return one(d, uint64(0), 1, lastWord, lastWord+1, 1<<62, 1<<63, math.MaxUint64, d.Uint64())
}

// some is as many of something as most at most, and often none.
func some[T any](d dice, most int, f func() T) []T {
	var l []T
	for range max(0, d.IntN(2*most+1)-most) {
		l = append(l, f())
	}
	return l
}

// msg is one that may be.
func (d dice) msg() api.Msg {
	most := one(d, 1, 2, 4, 8)
	return api.Msg{Kind: uint8(1 + d.IntN(14)), From: d.node(), To: d.node(), Id: d.word(), Target: d.node(), Range: d.node(), Flag: d.IntN(2) > 0,
		News: some(d, most, d.news), Keys: some(d, most, d.key), Recs: some(d, most, d.rec), Seen: some(d, most, d.seen), Digests: some(d, most, d.digest)}
}

// spoilt is a message in which one thing or some aren't as they may be; now and then nothing is.
func (d dice) spoilt() api.Msg {
	m := d.msg()
	for range 1 + d.IntN(2) {
		d.spoil(&m)
	}
	return m
}

func (d dice) spoil(m *api.Msg) {
	above := one(d, uint8(64), 65, 127, 128, 255)
	badKey := one(d, "", " ", "a b", "\x7f", "a\n", "k\x00", strings.Repeat("k", 251), strings.Repeat("k", 300))
	switch d.IntN(17) {
	case 0:
		m.Kind = one(d, uint8(0), 15, 16, 255)
	case 1:
		m.From = above
	case 2:
		m.To = above
	case 3:
		m.Target = above
	case 4:
		m.Range = above
	case 5, 6, 7:
		x := d.news()
		x.Node, x.Member.State = one(d, x.Node, above), one(d, uint8(0), 5, 255, x.Member.State)
		m.News = slices.Insert(m.News, d.IntN(len(m.News)+1), x)
	case 8, 9:
		m.Keys = slices.Insert(m.Keys, d.IntN(len(m.Keys)+1), badKey)
	case 10, 11, 12:
		r := d.rec()
		d.spoilRec(&r, badKey, above)
		m.Recs = slices.Insert(m.Recs, d.IntN(len(m.Recs)+1), r)
	case 13, 14, 15:
		r := d.rec()
		d.spoilRec(&r, badKey, above)
		m.Seen = slices.Insert(m.Seen, d.IntN(len(m.Seen)+1), api.Seen{Key: r.Key, Stamp: r.Stamp, Kind: r.Kind})
	case 16:
		n := one(d, mostItems, mostItems+1, 5000)
		switch d.IntN(3) {
		case 0:
			m.Keys = slices.Repeat([]string{"k"}, n)
		case 1:
			m.News = slices.Repeat([]api.News{d.news()}, n)
		case 2:
			m.Digests = make([]uint64, n)
		}
	}
}

func (d dice) spoilRec(r *api.Rec, badKey string, above uint8) {
	switch d.IntN(6) {
	case 0:
		r.Key = badKey
	case 1:
		r.Stamp.Phys = one(d, uint64(lastTime+1), aboveAll-1, aboveAll, math.MaxUint64)
	case 2:
		r.Stamp.Node = above
	case 3:
		r.Kind = one(d, uint8(0), 1, 2, 3, 4, 255)
	case 4:
		r.Expiry = one(d, uint64(1), lastTime+1, math.MaxUint64)
	case 5:
		r.Body = strings.Repeat("b", one(d, 1, 1024, 1025))
	}
}

// faulty is a body of a message, most of whose parts are right, and one or some of which may be not.
func (d dice) faulty() string {
	l := parts(d.msg())
	for range d.IntN(3) {
		p := &l[d.IntN(len(l))]
		if d.IntN(3) > 0 {
			p = &l[d.IntN(min(len(l), 12))]
		}
		switch {
		case p.text && d.IntN(3) > 0:
			t := one(d, "", " ", "a\x7f", strings.Repeat("k", int(p.most)), strings.Repeat("k", int(p.most)+1))
			p.bytes = text(t)
		default:
			p.bytes = one(d, number(p.most%aboveAll), number((p.most+1)%aboveAll), number(p.least), number(max(p.least, 1)-1), number(p.most%aboveAll/2), number(aboveAll-1), wide(p.least, 2), wide(0, 8), "")
		}
	}
	return joined(l)
}

// touched is bytes with a few of them changed, left out or put in.
func (d dice) touched(s string) string {
	b := []byte(s)
	for range 1 + d.IntN(2) {
		// Most of what can go wrong stands near the front.
		at := d.IntN(min(len(b), one(d, 9, 12, 40, 3000)) + 1)
		c := one(d, byte(0), 1, 2, 3, 4, 5, 32, 63, 64, 65, 127, 128, 192, 255, byte(d.IntN(256)))
		switch {
		case d.IntN(3) == 0:
			b = slices.Insert(b, at, c)
		case at == len(b):
		case d.IntN(2) == 0:
			b = slices.Delete(b, at, at+1)
		default:
			b[at] = c
		}
	}
	return string(b)
}
