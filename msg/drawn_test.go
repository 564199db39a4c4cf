package msg

import (
	"fmt"
	"math"
	"slices"
	"strings"
	"testing"
	"unsafe"

	"tattler/api"
)

// P22.1, R1: a nil codec: ErrArg, whatever it is given, and nothing beside it.
func TestNil(t *testing.T) {
	var none *Codec
	for _, m := range append(each(), api.Msg{}, api.Msg{Kind: 15}, lasting(t, longest), lasting(t, longest+1)) {
		if s, e := none.Pack(m); s != "" || e != api.ErrArg {
			t.Errorf("Pack(%s): %s, %d", short(m), short(s), e)
		}
	}
	for _, s := range []string{"", "\x02", noughts, sealed(""), sealed(noughts), sealed(noughts)[1:], sealed(noughts) + "\x00", sealed(head + "\x00\x01\x40\xfb"), framed(15, 64, 64, "\x40"), framed(1, 0, 0, strings.Repeat("\x00", longest+1))} {
		if m, e := none.Unpack(s); !same(m, api.Msg{}) || e != api.ErrArg {
			t.Errorf("Unpack(%s): %s, %d", short(s), short(m), e)
		}
	}
}

// copied is a message that shares no list with another one; its texts can't be changed.
func copied(m api.Msg) api.Msg {
	m.News, m.Keys, m.Recs, m.Seen, m.Digests = slices.Clone(m.News), slices.Clone(m.Keys), slices.Clone(m.Recs), slices.Clone(m.Seen), slices.Clone(m.Digests)
	return m
}

// roomy is a message whose lists have spare room with something in it; whole is that message with all of its room.
func roomy(m api.Msg) (cut, whole api.Msg) {
	whole = copied(m)
	whole.News = append(whole.News, api.News{Node: 200}, api.News{Node: 201})
	whole.Keys = append(whole.Keys, "spare", "")
	whole.Recs = append(whole.Recs, api.Rec{Key: "spare"}, value())
	whole.Seen = append(whole.Seen, api.Seen{Key: "spare"}, api.Seen{Kind: 200})
	whole.Digests = append(whole.Digests, 17, 18)
	cut = whole
	cut.News, cut.Keys, cut.Recs, cut.Seen, cut.Digests = cut.News[:len(m.News)], cut.Keys[:len(m.Keys)], cut.Recs[:len(m.Recs)], cut.Seen[:len(m.Seen)], cut.Digests[:len(m.Digests)]
	return cut, whole
}

// R3: Pack leaves what it is handed as it is, its spare room too, and that plays no part.
func TestPackLeavesItsMessage(t *testing.T) {
	d := newDice(1)
	messages := append(each(), lasting(t, longest), lasting(t, longest+1))
	for range 300 {
		messages = append(messages, d.msg(), d.spoilt())
	}
	for _, m := range messages {
		cut, whole := roomy(m)
		was := copied(whole)
		checkPack(t, New(), cut)
		if !same(whole, was) {
			t.Fatalf("%s has become %s", short(was), short(whole))
		}
	}
}

// span is memory from a byte on up to another one.
type span struct {
	name     string
	from, to uintptr
}

func spanOf[T any](name string, l []T) span {
	from := uintptr(unsafe.Pointer(unsafe.SliceData(l)))
	return span{name, from, from + uintptr(cap(l))*unsafe.Sizeof(*new(T))}
}

func spanOfText(name, s string) span {
	from := uintptr(unsafe.Pointer(unsafe.StringData(s)))
	return span{name, from, from + uintptr(len(s))}
}

// spans is the memory of all lists, spare room too, and of all texts of a message.
func spans(name string, m api.Msg) []span {
	l := []span{spanOf(name+" News", m.News), spanOf(name+" Keys", m.Keys), spanOf(name+" Recs", m.Recs), spanOf(name+" Seen", m.Seen), spanOf(name+" Digests", m.Digests)}
	for _, k := range m.Keys {
		l = append(l, spanOfText(name+" Key", k))
	}
	for _, r := range m.Recs {
		l = append(l, spanOfText(name+" Rec's Key", r.Key), spanOfText(name+" Rec's Body", r.Body))
	}
	for _, x := range m.Seen {
		l = append(l, spanOfText(name+" Seen's Key", x.Key))
	}
	return l
}

// apart checks that no memory is in two of them.
func apart(t *testing.T, l []span) {
	t.Helper()
	for i, a := range l {
		for _, b := range l[:i] {
			if a.from < b.to && b.from < a.to {
				t.Errorf("%s and %s share memory", b.name, a.name)
			}
		}
	}
}

// R3: an answer shares no memory with what was handed in, with another answer, or with anything else of it.
func TestAnswersStandApart(t *testing.T) {
	d := newDice(2)
	messages := each()
	for range 60 {
		messages = append(messages, d.msg())
	}
	c, other := New(), New()
	for _, m := range messages {
		s1, _ := c.Pack(m)
		s2, _ := c.Pack(m)
		s3, _ := other.Pack(m)
		m1, _ := c.Unpack(s1)
		m2, _ := c.Unpack(s1)
		m3, _ := other.Unpack(s1)
		frames := []span{spanOfText("a frame", s1), spanOfText("a second frame", s2), spanOfText("another codec's frame", s3)}
		apart(t, slices.Concat(spans("first", m1), spans("second", m2), spans("third", m3), frames))
		// The texts of what was handed in are the same memory several times there: so each is held against the answers alone.
		for _, x := range spans("handed in", m) {
			apart(t, append(slices.Clone(frames), x))
		}
	}
}

// R3: what is told outlives what it was told of: neither keeps memory that somebody else may change.
func TestMemoryChangedLater(t *testing.T) {
	m := full()
	want, _ := slowPack(m)
	room := []byte(want)
	c := New()
	got, e := c.Unpack(unsafe.String(&room[0], len(room)))
	if e != api.OK || !same(got, m) || string(room) != want {
		t.Fatal(short(got), e)
	}
	for i := range room {
		room[i] = 0xAA
	}
	if !same(got, m) {
		t.Fatal("what was read has changed with the frame", short(got))
	}

	key := []byte("key")
	k := api.Msg{Kind: 1, Keys: []string{unsafe.String(&key[0], 3)}}
	s, _ := c.Pack(k)
	was := strings.Clone(s)
	key[0], k.Keys[0] = 'x', "other"
	if s != was || s != framed(1, 0, 0, noughts[:5]+"\x01\x03key"+noughts[:3]) {
		t.Fatalf("what was packed has changed with the message: %q", s)
	}
}

// R3: what was answered may be changed, spare room too, without a change of what is answered later.
func TestAnswersMayBeChanged(t *testing.T) {
	c := New()
	for _, m := range each() {
		s, _ := c.Pack(m)
		for range 3 {
			got, e := c.Unpack(s)
			if e != api.OK || !same(got, m) {
				t.Fatalf("%s, %d, not %s", short(got), e, short(m))
			}
			for i := range got.News {
				got.News[i].Member.State = 99
			}
			clear(got.Keys[:cap(got.Keys)])
			clear(got.Recs[:cap(got.Recs)])
			clear(got.Seen[:cap(got.Seen)])
			clear(got.Digests[:cap(got.Digests)])
		}
	}
}

// R2, R6: what a codec was asked ahead, right or wrong, plays no part, and codecs side by side are of their own.
func TestCodecsSideBySide(t *testing.T) {
	codecs := []*Codec{New(), New(), New(), New()}
	for i, c := range codecs {
		if c == nil || slices.Index(codecs, c) != i {
			t.Fatal("New answers no codec of its own")
		}
	}
	d := newDice(3)
	// The last one is asked nothing but what all are asked in the end.
	for range 2000 {
		c := codecs[d.IntN(3)]
		switch d.IntN(4) {
		case 0:
			checkPack(t, c, d.msg())
		case 1:
			checkPack(t, c, d.spoilt())
		case 2:
			checkUnpack(t, c, sealed(d.faulty()))
		case 3:
			checkUnpack(t, c, d.touched(sealed(d.faulty())))
		}
	}
	m := full()
	for _, c := range codecs {
		s, e := checkPack(t, c, m)
		if got, e2 := c.Unpack(s); e != api.OK || e2 != api.OK || !same(got, m) {
			t.Fatalf("%s, %d, %d", short(got), e, e2)
		}
	}
}

// P22.1, P22.2: many messages, drawn, call by call as reckoned; those that may be come back as they were, by the same codec and by another one.
func TestDrawnMessages(t *testing.T) {
	d, c := newDice(4), New()
	seen := map[api.Errno]int{}
	for i := range 6000 {
		m := d.msg()
		if i%2 > 0 {
			m = d.spoilt()
		}
		s, e := checkPack(t, c, m)
		seen[e]++
		if e != api.OK {
			continue
		}
		for _, x := range []*Codec{c, New()} {
			if got, e := x.Unpack(s); !same(got, m) || e != api.OK {
				t.Fatalf("%s comes back as %s, %d", short(m), short(got), e)
			}
		}
		if again, e := New().Pack(m); again != s || e != api.OK {
			t.Fatalf("%s: %s, then %s, %d", short(m), short(s), short(again), e)
		}
	}
	reached(t, seen, api.OK, api.ErrArg)
}

// P22.1, P22.2: large messages, drawn: some of them too long for a frame.
func TestDrawnLargeMessages(t *testing.T) {
	d, c := newDice(5), New()
	seen := map[api.Errno]int{}
	for range 60 {
		m := d.msg()
		for range 1 + d.IntN(3) {
			n := one(d, 500, 1000, 4000, 4095, 4096)
			switch d.IntN(7) {
			case 0:
				m.News = slices.Repeat([]api.News{d.news()}, n)
			case 1:
				m.Keys = slices.Repeat([]string{d.key()}, n)
			case 2:
				m.Seen = slices.Repeat([]api.Seen{d.seen()}, n)
			case 3:
				m.Digests = slices.Repeat([]uint64{d.digest(), d.Uint64()}, n/2)
			default:
				// Mostly it is records that make a body too long for a frame.
				r := value()
				r.Body = strings.Repeat("\x00", one(d, 0, 200, 240, 500, 1024))
				m.Recs = slices.Repeat([]api.Rec{d.rec(), r}, n/2)
			}
		}
		s, e := checkPack(t, c, m)
		seen[e]++
		if e != api.OK {
			continue
		}
		if got, e := checkUnpack(t, c, s); !same(got, m) || e != api.OK {
			t.Fatalf("%s comes back as %s, %d", short(m), short(got), e)
		}
	}
	if seen[api.OK] < 10 || seen[api.ErrLong] < 10 {
		t.Errorf("%v: the test tells little", seen)
	}
}

// reached tells whether each of these errors came up many times.
func reached(t *testing.T, seen map[api.Errno]int, want ...api.Errno) {
	t.Helper()
	for _, e := range want {
		if seen[e] < 100 {
			t.Errorf("error %d came up %d times: the test tells little", e, seen[e])
		}
	}
}

// P22.1, P22.2: many frames, drawn, whose bodies have faults, and whose bytes are touched, with a right sum and without, call by call as reckoned.
func TestDrawnFrames(t *testing.T) {
	d, c := newDice(6), New()
	seen := map[api.Errno]int{}
	for i := range 40000 {
		var s string
		switch i % 5 {
		case 0, 1:
			s = framed(uint8(1+d.IntN(14)), d.node(), d.node(), d.faulty())
		case 2, 3:
			s = sealed(d.touched(body(d.msg())))
		case 4:
			s = d.touched(sealed(body(d.msg())))
			if d.IntN(2) > 0 && len(s) > 12 {
				s = framed(s[1], s[2], s[3], s[8:len(s)-4])
			}
		}
		_, e := checkUnpack(t, c, s)
		seen[e]++
	}
	reached(t, seen, api.OK, api.ErrShort, api.ErrForm, api.ErrLong, api.ErrSum)
}

// P22.1: any bytes at all, with a right sum and without.
func TestAnyBytes(t *testing.T) {
	d, c := newDice(7), New()
	for range 20000 {
		b := make([]byte, d.IntN(40))
		for i := range b {
			b[i] = one(d, byte(0), 0, 1, 1, 2, 3, 'a', byte(d.IntN(256)))
		}
		checkUnpack(t, c, sealed(string(b)))
		checkUnpack(t, c, string(b))
	}
}

// P22.1, P22.2: every body of up to six bytes out of few, and of up to eight behind noughts.
func TestEveryShortBody(t *testing.T) {
	letters := []byte{0, 1, 2, 33, 64}
	c := New()
	read := 0
	row := make([]byte, 0, 14)
	var walk func(most int)
	walk = func(most int) {
		if _, e := checkUnpack(t, c, sealed(string(row))); e == api.OK {
			read++
		}
		if len(row) == most {
			return
		}
		for _, b := range letters {
			row = append(row, b)
			walk(most)
			row = row[:len(row)-1]
		}
	}
	walk(6)
	// Whole bodies have four numbers ahead of all lists, and a count of each.
	row = append(row, head...)
	walk(12)
	row = append(row[:0], head+"\x00\x00"...)
	walk(14)
	if read < 100 {
		t.Errorf("%d messages: the test tells little", read)
	}
}

// P22.3: each bit of many frames, turned.
func TestOneBit(t *testing.T) {
	c, d := New(), newDice(8)
	messages := each()
	for len(messages) < 60 {
		if m := d.msg(); len(body(m)) < 600 {
			messages = append(messages, m)
		}
	}
	for _, m := range messages {
		s, e := c.Pack(m)
		if e != api.OK {
			t.Fatal(short(m), e)
		}
		b := []byte(s)
		for bit := range 8 * len(b) {
			b[bit/8] ^= 1 << (bit % 8)
			if got, e := c.Unpack(string(b)); e == api.OK || !same(got, api.Msg{}) {
				t.Fatalf("%s with its bit %d turned: %s, %d", short(s), bit, short(got), e)
			}
			b[bit/8] ^= 1 << (bit % 8)
		}
		if got, e := c.Unpack(string(b)); e != api.OK || !same(got, m) {
			t.Fatalf("%s with no bit turned: %s, %d", short(s), short(got), e)
		}
	}
}

// P22.3: of the longest frame, bits of the head and of the sum, and bits between.
func TestOneBitOfTheLongest(t *testing.T) {
	c := New()
	s, e := c.Pack(lasting(t, longest))
	if e != api.OK {
		t.Fatal(e)
	}
	b := []byte(s)
	for bit := 0; bit < 8*len(b); bit++ {
		if bit == 160 {
			bit = 8*len(b) - 100
		}
		b[bit/8] ^= 1 << (bit % 8)
		if got, e := c.Unpack(string(b)); e == api.OK || !same(got, api.Msg{}) {
			t.Fatalf("bit %d turned: %s, %d", bit, short(got), e)
		}
		b[bit/8] ^= 1 << (bit % 8)
	}
	for at := 20; at < len(b)-20; at += len(b) / 40 {
		b[at] ^= 1 << (at % 8)
		if _, e := c.Unpack(string(b)); e != api.ErrSum {
			t.Fatalf("a bit of the byte %d turned: %d", at, e)
		}
		b[at] ^= 1 << (at % 8)
	}
}

// What is drawn reaches what it is drawn for: each list at several lengths, each kind, each way of being wrong.
func TestDrawnReach(t *testing.T) {
	d := newDice(9)
	reached := map[string]int{}
	for range 4000 {
		m := d.msg()
		reached[fmt.Sprint("kind ", m.Kind)]++
		reached[fmt.Sprint("flag ", m.Flag)]++
		reached[fmt.Sprint("greatest ", m.Id == math.MaxUint32)]++
		for i, n := range []int{len(m.News), len(m.Keys), len(m.Recs), len(m.Seen), len(m.Digests)} {
			reached[fmt.Sprint("list ", i, " of ", min(n, 3))]++
		}
		for _, r := range m.Recs {
			reached[fmt.Sprint("rec ", r.Kind)]++
		}
		x := d.spoilt()
		_, e := slowPack(x)
		reached[fmt.Sprint("spoilt ", e)]++
		_, e = slowUnpack(sealed(d.faulty()))
		reached[fmt.Sprint("faulty ", e)]++
	}
	want := []string{"flag true", "flag false", "greatest true", "rec 1", "rec 2", "rec 3", "spoilt tattler error 0", "spoilt tattler error 1", "faulty tattler error 0", "faulty tattler error 2", "faulty tattler error 3", "faulty tattler error 4"}
	for kind := 1; kind <= 14; kind++ {
		want = append(want, fmt.Sprint("kind ", kind))
	}
	for i := range 5 {
		for n := range 4 {
			want = append(want, fmt.Sprint("list ", i, " of ", n))
		}
	}
	for _, x := range want {
		if reached[x] < 50 {
			t.Errorf("%s: %d times", x, reached[x])
		}
	}
}
