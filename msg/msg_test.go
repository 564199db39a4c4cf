package msg

import (
	"fmt"
	"math"
	"slices"
	"strings"
	"testing"

	"tattler/api"
)

const (
	noughts = "\x00\x00\x00\x00\x00\x00\x00\x00\x00"
	// head is Id, Target, Range and Flag of a message in which they are 0.
	head = "\x00\x00\x00\x00"
	// The greatest number of 32 bits, and the one behind it; the greatest time, and the one behind it; the greatest number that has bytes.
	all32  = "\xc0\x00\x00\x00\xff\xff\xff\xff"
	over32 = "\xc0\x00\x00\x01\x00\x00\x00\x00"
	all48  = "\xc0\x00\xff\xff\xff\xff\xff\xff"
	over48 = "\xc0\x01\x00\x00\x00\x00\x00\x00"
	all62  = "\xff\xff\xff\xff\xff\xff\xff\xff"
)

// with is a message of kind 1 with something done to it.
func with(change func(m *api.Msg)) api.Msg {
	m := api.Msg{Kind: 1}
	change(&m)
	return m
}

func member(state uint8, inc uint32) api.Member { return api.Member{State: state, Inc: inc} }

func at(phys uint64, logical uint32, node uint8) api.Stamp {
	return api.Stamp{Phys: phys, Logical: logical, Node: node}
}

// marker and value are records of key a at (1, 2, 3).
func marker() api.Rec { return api.Rec{Key: "a", Stamp: at(1, 2, 3), Kind: 1} }

func value() api.Rec {
	return api.Rec{Key: "a", Stamp: at(1, 2, 3), Kind: 3, Flags: 5, Expiry: 7, Body: "xy"}
}

// full is a message that has several of everything.
func full() api.Msg {
	return api.Msg{Kind: 14, From: 1, To: 2, Id: 70, Target: 3, Range: 61, Flag: true,
		News: []api.News{{Node: 5, Member: member(3, 9)}, {Node: 63, Member: member(4, lastWord)}},
		Keys: []string{"ab", strings.Repeat("k", 70), "é\xff!"},
		Recs: []api.Rec{
			{Key: "m", Stamp: at(20000, 0, 63), Kind: 1},
			{Key: "t", Stamp: at(1, lastWord, 0), Kind: 2},
			{Key: "v", Stamp: at(lastTime, 7, 8), Kind: 3, Flags: lastWord, Expiry: 300, Body: "x\x00y"},
			{Key: "w", Stamp: at(64, 65, 6), Kind: 3},
		},
		Seen:    []api.Seen{{Key: "s", Stamp: at(2, 3, 4), Kind: 3}, {Key: "zz", Stamp: at(lastTime, lastWord, 63), Kind: 1}},
		Digests: []uint64{1<<63 | 5, 0, math.MaxUint64},
	}
}

// each are messages that have of one thing, or of nothing; and the full one.
func each() []api.Msg {
	l := []api.Msg{full(), {Kind: 1, From: 2, To: 3}, {Kind: 14, From: 63, To: 63, Id: lastWord, Target: 63, Range: 63, Flag: true}}
	for kind := uint8(1); kind <= 14; kind++ {
		m := api.Msg{Kind: kind, From: kind, To: 64 - kind, Id: uint32(kind) * 9000}
		switch kind % 5 {
		case 0:
			m.News = []api.News{{Node: kind, Member: member(kind%4+1, 16384)}}
		case 1:
			m.Keys = []string{"key", "k"}
		case 2:
			m.Recs = []api.Rec{marker(), value()}
		case 3:
			m.Seen = []api.Seen{{Key: "key", Stamp: at(9, 8, 7), Kind: 2}}
		case 4:
			m.Digests = []uint64{1 << 40, 5}
		}
		l = append(l, m)
	}
	return l
}

// P22.1, P22.2: the chapter's example, and frames whose sums were reckoned elsewhere.
func TestExample(t *testing.T) {
	for _, x := range []struct {
		m    api.Msg
		want string
	}{
		{api.Msg{Kind: 1, From: 2, To: 3}, "\x01\x01\x02\x03\x00\x00\x00\x09" + noughts + "\xc8\xd3\x14\xef"},
		{api.Msg{Kind: 14, From: 63, To: 63, Id: lastWord, Target: 63, Range: 63, Flag: true}, "\x01\x0e\x3f\x3f\x00\x00\x00\x10" + all32 + "\x3f\x3f\x01\x00\x00\x00\x00\x00\x8a\x3e\x1a\xaf"},
		{api.Msg{Kind: 14, From: 1, To: 2, Id: 70, Target: 3, Range: 63, Flag: true,
			News: []api.News{{Node: 5, Member: member(3, 9)}}, Keys: []string{"ab"},
			Recs: []api.Rec{{Key: "k", Stamp: at(1, 0, 0), Kind: 2}}, Seen: []api.Seen{{Key: "s", Stamp: at(2, 3, 4), Kind: 3}}, Digests: []uint64{1<<63 | 5}},
			"\x01\x0e\x01\x02\x00\x00\x00\x25\x40\x46\x03\x3f\x01\x01\x05\x03\x09\x01\x02ab\x01\x01k\x01\x00\x00\x02\x01\x01s\x02\x03\x04\x03\x01\xc0\x00\x00\x00\x80\x00\x00\x00\x05\x5b\xcd\x18\xfe"},
	} {
		c := New()
		if s, e := c.Pack(x.m); s != x.want || e != api.OK {
			t.Errorf("Pack(%s): %q, %d, not %q", short(x.m), s, e, x.want)
		}
		if m, e := c.Unpack(x.want); !same(m, x.m) || e != api.OK {
			t.Errorf("Unpack(%q): %s, %d", x.want, short(m), e)
		}
	}
}

// P22.1: each kind, those that may not be too, with much in the message and with nothing.
func TestKinds(t *testing.T) {
	for i := range 256 {
		for _, m := range []api.Msg{{}, full()} {
			m.Kind = uint8(i)
			if i >= 1 && i <= 14 {
				packs(t, fmt.Sprint("kind ", i), m, body(m))
				continue
			}
			unpackable(t, fmt.Sprint("kind ", i), m, api.ErrArg)
			refused(t, fmt.Sprint("kind ", i), framed(m.Kind, m.From, m.To, body(m)), api.ErrForm)
		}
	}
}

// P22.1: From, To, Target and Range of each number that a byte holds.
func TestNodesAndRange(t *testing.T) {
	for i := range 256 {
		b := uint8(i)
		for name, m := range map[string]api.Msg{
			"From":   {Kind: 1, From: b},
			"To":     {Kind: 1, To: b},
			"Target": {Kind: 1, Target: b},
			"Range":  {Kind: 1, Range: b},
		} {
			name = fmt.Sprint(name, " ", i)
			if i < 64 {
				packs(t, name, m, "\x00"+string([]byte{m.Target, m.Range})+noughts[3:])
				continue
			}
			unpackable(t, name, m, api.ErrArg)
			refused(t, name, framed(1, m.From, m.To, body(m)), api.ErrForm)
		}
	}
	for name, b := range map[string]string{
		"Target 2^8":      "\x00\x41\x00" + noughts[2:],
		"Target 2^8, 3":   "\x00\x41\x03" + noughts[2:],
		"Target 2^32":     "\x00" + over32 + noughts[2:],
		"Target 2^62 - 1": "\x00" + all62 + noughts[2:],
		"Range 2^8":       "\x00\x00\x41\x00" + noughts[3:],
		"Range 2^8, 3":    "\x00\x00\x41\x03" + noughts[3:],
		"Range 2^62 - 1":  "\x00\x00" + all62 + noughts[3:],
	} {
		refused(t, name, sealed(b), api.ErrForm)
	}
}

// P22.1: Ids of every length, and such as are none.
func TestIds(t *testing.T) {
	for id, want := range map[uint32]string{0: "\x00", 1: "\x01", 63: "\x3f", 64: "\x40\x40", 70: "\x40\x46", 16383: "\x7f\xff", 16384: "\x80\x00\x40\x00", 1<<30 - 1: "\xbf\xff\xff\xff", 1 << 30: "\xc0\x00\x00\x00\x40\x00\x00\x00", lastWord - 1: "\xc0\x00\x00\x00\xff\xff\xff\xfe", lastWord: all32} {
		packs(t, fmt.Sprint("Id ", id), api.Msg{Kind: 1, Id: id}, want+noughts[1:])
	}
	for name, id := range map[string]string{"2^32": over32, "2^32 + 5": "\xc0\x00\x00\x01\x00\x00\x00\x05", "2^48": over48, "2^62 - 1": all62, "0 in two bytes": "\x40\x00", "63 in two bytes": "\x40\x3f", "5 in four bytes": "\x80\x00\x00\x05", "5 in eight bytes": "\xc0\x00\x00\x00\x00\x00\x00\x05", "2^30 - 1 in eight bytes": "\xc0\x00\x00\x00\x3f\xff\xff\xff"} {
		refused(t, "Id "+name, sealed(id+noughts[1:]), api.ErrForm)
	}
}

// P22.1: Flag is 0 or 1, and nothing else.
func TestFlag(t *testing.T) {
	packs(t, "no Flag", api.Msg{Kind: 3}, noughts)
	packs(t, "Flag", api.Msg{Kind: 3, Flag: true}, "\x00\x00\x00\x01\x00\x00\x00\x00\x00")
	for n := 2; n < 64; n++ {
		refused(t, "Flag", sealed("\x00\x00\x00"+string([]byte{byte(n)})+noughts[4:]), api.ErrForm)
	}
	for _, s := range []string{"\x40\x40", "\x41\x00", "\x41\x01", over32, all62, "\x40\x00", "\x40\x01"} {
		refused(t, "Flag", sealed("\x00\x00\x00"+s+noughts[4:]), api.ErrForm)
	}
}

// P22.1: each list of no, of one, of as many as may be, and of more.
func TestLists(t *testing.T) {
	for _, n := range []int{0, 1, 2, 63, 64, 65, 4095, 4096, 4097, 4098, 10000} {
		rec := api.Rec{Key: "k", Stamp: at(1, 2, 3), Kind: 2}
		for _, x := range []struct {
			name        string
			m           api.Msg
			one         string
			place, tail int // how many noughts stand ahead of it and behind it
		}{
			{"News", with(func(m *api.Msg) { m.News = slices.Repeat([]api.News{{Node: 5, Member: member(2, 7)}}, n) }), "\x05\x02\x07", 4, 4},
			{"Keys", with(func(m *api.Msg) { m.Keys = slices.Repeat([]string{"ab"}, n) }), "\x02ab", 5, 3},
			{"Recs", with(func(m *api.Msg) { m.Recs = slices.Repeat([]api.Rec{rec}, n) }), "\x01k\x01\x02\x03\x02", 6, 2},
			{"Seen", with(func(m *api.Msg) {
				m.Seen = slices.Repeat([]api.Seen{{Key: "s", Stamp: at(1, 2, 3), Kind: 1}}, n)
			}), "\x01s\x01\x02\x03\x01", 7, 1},
			{"Digests", with(func(m *api.Msg) { m.Digests = slices.Repeat([]uint64{7<<32 | 9}, n) }), "\x07\x09", 8, 0},
		} {
			name := fmt.Sprint(n, " ", x.name)
			b := noughts[:x.place] + number(uint64(n)) + strings.Repeat(x.one, n) + noughts[:x.tail]
			if n <= 4096 {
				packs(t, name, x.m, b)
				continue
			}
			unpackable(t, name, x.m, api.ErrArg)
			refused(t, name, framed(1, 0, 0, b), api.ErrForm)
		}
	}
}

// P22.1, R4: a list without elements is the same, nil or empty.
func TestEmptyLists(t *testing.T) {
	packs(t, "empty lists", api.Msg{Kind: 1, News: []api.News{}, Keys: []string{}, Recs: []api.Rec{}, Seen: []api.Seen{}, Digests: []uint64{}}, noughts)
}

// P22.1: all lists of as many as may be at once.
func TestAllListsFull(t *testing.T) {
	m := full()
	m.News = slices.Repeat(m.News, 2048)
	m.Keys = slices.Repeat([]string{"ab", "é\xff!"}, 2048)
	m.Recs = slices.Repeat(m.Recs, 1024)
	m.Seen = slices.Repeat(m.Seen, 2048)
	m.Digests = slices.Repeat([]uint64{1, math.MaxUint64}, 2048)
	packs(t, "full lists", m, body(m))
}

// P22.1: a News' Node and State of each number that a byte holds, and Incs of every length.
func TestNews(t *testing.T) {
	news := func(x api.News) api.Msg {
		return api.Msg{Kind: 2, News: []api.News{{Node: 1, Member: member(1, 1)}, x}}
	}
	const front = head + "\x02\x01\x01\x01"
	for i := range 256 {
		b := uint8(i)
		node, state := news(api.News{Node: b, Member: member(4, 2)}), news(api.News{Node: 62, Member: member(b, 3)})
		if i < 64 {
			packs(t, fmt.Sprint("Node ", i), node, front+string([]byte{b})+"\x04\x02"+noughts[:4])
		} else {
			unpackable(t, fmt.Sprint("Node ", i), node, api.ErrArg)
			refused(t, fmt.Sprint("Node ", i), sealed(body(node)), api.ErrForm)
		}
		if i >= 1 && i <= 4 {
			packs(t, fmt.Sprint("State ", i), state, front+"\x3e"+string([]byte{b})+"\x03"+noughts[:4])
		} else {
			unpackable(t, fmt.Sprint("State ", i), state, api.ErrArg)
			refused(t, fmt.Sprint("State ", i), sealed(body(state)), api.ErrForm)
		}
	}
	for inc, want := range map[uint32]string{0: "\x00", 63: "\x3f", 64: "\x40\x40", 1<<30 - 1: "\xbf\xff\xff\xff", lastWord: all32} {
		packs(t, fmt.Sprint("Inc ", inc), news(api.News{Member: member(1, inc)}), front+"\x00\x01"+want+noughts[:4])
	}
	for name, s := range map[string]string{
		"Node 2^8 + 1": "\x41\x01\x01\x00", "Node 2^62 - 1": all62 + "\x01\x00", "Node in two bytes": "\x40\x01\x01\x00",
		"State 2^8 + 1": "\x00\x41\x01\x00", "State 2^32 + 1": "\x00\xc0\x00\x00\x01\x00\x00\x00\x01\x00", "State 2^62 - 1": "\x00" + all62 + "\x00", "State in two bytes": "\x00\x40\x01\x00",
		"Inc 2^32": "\x00\x01" + over32, "Inc 2^62 - 1": "\x00\x01" + all62, "Inc in two bytes": "\x00\x01\x40\x01",
	} {
		refused(t, name, sealed(front+s+noughts[:4]), api.ErrForm)
	}
}

// P22.1: Keys of every length about the bounds, and each byte at each end and in the middle.
func TestKeys(t *testing.T) {
	keys := func(k string) api.Msg { return api.Msg{Kind: 13, Keys: []string{"a", k, "b"}} }
	for n, want := range map[int]api.Errno{0: api.ErrForm, 1: api.OK, 2: api.OK, 63: api.OK, 64: api.OK, 249: api.OK, 250: api.OK, 251: api.ErrLong, 252: api.ErrLong, 16384: api.ErrLong} {
		k := strings.Repeat("k", n)
		b := head + "\x00\x03\x01a" + number(uint64(n)) + k + "\x01b\x00\x00\x00"
		if want == api.OK {
			packs(t, fmt.Sprint(n, " bytes"), keys(k), b)
			continue
		}
		unpackable(t, fmt.Sprint(n, " bytes"), keys(k), api.ErrArg)
		refused(t, fmt.Sprint(n, " bytes"), sealed(b), want)
	}
	for i := range 256 {
		c := string([]byte{byte(i)})
		for _, k := range []string{c, c + "k", "k" + c, "k" + c + "k", strings.Repeat("k", 249) + c} {
			m := keys(k)
			if i > 32 && i != 127 {
				packs(t, "Key", m, head+"\x00\x03\x01a"+number(uint64(len(k)))+k+"\x01b\x00\x00\x00")
				continue
			}
			unpackable(t, "Key", m, api.ErrArg)
			refused(t, "Key", sealed(body(m)), api.ErrForm)
		}
	}
}

// P22.1: records of each kind.
func TestRecs(t *testing.T) {
	long := value()
	long.Key, long.Body = strings.Repeat("k", 250), strings.Repeat("\x00", 1024)
	greatest := api.Rec{Key: "a", Stamp: at(lastTime, lastWord, 63), Kind: 3, Flags: lastWord, Expiry: lastTime}
	for _, x := range []struct {
		r    api.Rec
		want string
	}{
		{marker(), "\x01a\x01\x02\x03\x01"},
		{api.Rec{Key: "a", Kind: 2}, "\x01a\x00\x00\x00\x02"},
		{value(), "\x01a\x01\x02\x03\x03\x05\x07\x02xy"},
		{api.Rec{Key: "a", Kind: 3}, "\x01a\x00\x00\x00\x03\x00\x00\x00"},
		{greatest, "\x01a" + all48 + all32 + "\x3f\x03" + all32 + all48 + "\x00"},
		{long, "\x40\xfa" + long.Key + "\x01\x02\x03\x03\x05\x07\x44\x00" + long.Body},
	} {
		packs(t, "Rec", api.Msg{Kind: 7, Recs: []api.Rec{x.r}}, noughts[:6]+"\x01"+x.want+"\x00\x00")
		packs(t, "three Recs", api.Msg{Kind: 7, Recs: []api.Rec{marker(), x.r, x.r}}, noughts[:6]+"\x03\x01a\x01\x02\x03\x01"+x.want+x.want+"\x00\x00")
	}
}

// P22.1: records that may not be, for each reason alone; what is said of them stands as layer 6 says.
func TestRecsThatMayNotBe(t *testing.T) {
	for name, x := range map[string]struct {
		change func(r *api.Rec)
		want   api.Errno
	}{
		"no Key":                {func(r *api.Rec) { r.Key = "" }, api.ErrForm},
		"a Key of 251 bytes":    {func(r *api.Rec) { r.Key = strings.Repeat("k", 251) }, api.ErrLong},
		"a Key with a blank":    {func(r *api.Rec) { r.Key = "a b" }, api.ErrForm},
		"a Key with a 127":      {func(r *api.Rec) { r.Key = "a\x7f" }, api.ErrForm},
		"Phys above MaxTime":    {func(r *api.Rec) { r.Stamp.Phys = lastTime + 1 }, api.ErrForm},
		"Phys 2^62 - 1":         {func(r *api.Rec) { r.Stamp.Phys = aboveAll - 1 }, api.ErrForm},
		"Node 64":               {func(r *api.Rec) { r.Stamp.Node = 64 }, api.ErrForm},
		"Node 255":              {func(r *api.Rec) { r.Stamp.Node = 255 }, api.ErrForm},
		"Expiry above MaxTime":  {func(r *api.Rec) { r.Expiry = lastTime + 1 }, api.ErrForm},
		"a Body of 1025 bytes":  {func(r *api.Rec) { r.Body = strings.Repeat("b", 1025) }, api.ErrLong},
		"a Body of 16384 bytes": {func(r *api.Rec) { r.Body = strings.Repeat("b", 16384) }, api.ErrLong},
	} {
		r := value()
		x.change(&r)
		m := api.Msg{Kind: 14, Recs: []api.Rec{marker(), r, marker()}}
		unpackable(t, name, m, api.ErrArg)
		refused(t, name, sealed(body(m)), x.want)
	}
	for _, kind := range []uint8{0, 4, 5, 63, 64, 255} {
		r := marker()
		r.Kind = kind
		m := api.Msg{Kind: 14, Recs: []api.Rec{r}}
		unpackable(t, fmt.Sprint("Kind ", kind), m, api.ErrArg)
		refused(t, fmt.Sprint("Kind ", kind), sealed(body(m)), api.ErrForm)
	}
	// What just a Value has no bytes of a Marker and of a Tomb could say.
	for _, kind := range []uint8{1, 2} {
		for name, change := range map[string]func(r *api.Rec){
			"Flags": func(r *api.Rec) { r.Flags = 1 }, "Expiry": func(r *api.Rec) { r.Expiry = 1 }, "Body": func(r *api.Rec) { r.Body = "x" },
		} {
			r := marker()
			r.Kind = kind
			change(&r)
			unpackable(t, name, api.Msg{Kind: 14, Recs: []api.Rec{r}}, api.ErrArg)
		}
	}
	r := value()
	r.Stamp.Phys, r.Expiry = aboveAll, math.MaxUint64
	unpackable(t, "numbers without bytes", api.Msg{Kind: 14, Recs: []api.Rec{r}}, api.ErrArg)
}

// P22.1: what is seen: its Key, Phys, Logical, Node and Kind about their bounds.
func TestSeen(t *testing.T) {
	seen := func(x api.Seen) api.Msg {
		return api.Msg{Kind: 12, Seen: []api.Seen{{Key: "a", Kind: 1}, x}}
	}
	front := noughts[:7] + "\x02\x01a\x00\x00\x00\x01"
	right := func(name string, x api.Seen, want string) {
		t.Helper()
		packs(t, name, seen(x), front+want+"\x00")
	}
	wrong := func(name string, x api.Seen, want api.Errno) {
		t.Helper()
		unpackable(t, name, seen(x), api.ErrArg)
		refused(t, name, sealed(body(seen(x))), want)
	}
	for i := range 256 {
		b := uint8(i)
		c := string([]byte{b})
		node, kind, key := api.Seen{Key: "s", Stamp: at(5, 6, b), Kind: 2}, api.Seen{Key: "s", Stamp: at(5, 6, 7), Kind: b}, api.Seen{Key: "k" + c, Stamp: at(5, 6, 7), Kind: 3}
		if i < 64 {
			right(fmt.Sprint("Node ", i), node, "\x01s\x05\x06"+c+"\x02")
		} else {
			wrong(fmt.Sprint("Node ", i), node, api.ErrForm)
		}
		if i >= 1 && i <= 3 {
			right(fmt.Sprint("Kind ", i), kind, "\x01s\x05\x06\x07"+c)
		} else {
			wrong(fmt.Sprint("Kind ", i), kind, api.ErrForm)
		}
		if i > 32 && i != 127 {
			right(fmt.Sprint("byte ", i), key, "\x02k"+c+"\x05\x06\x07\x03")
		} else {
			wrong(fmt.Sprint("byte ", i), key, api.ErrForm)
		}
	}
	long := strings.Repeat("s", 250)
	right("a Key of 250 bytes", api.Seen{Key: long, Kind: 1}, "\x40\xfa"+long+"\x00\x00\x00\x01")
	wrong("a Key of 251 bytes", api.Seen{Key: long + "s", Kind: 1}, api.ErrLong)
	wrong("no Key", api.Seen{Kind: 1}, api.ErrForm)
	right("the greatest", api.Seen{Key: "s", Stamp: at(lastTime, lastWord, 63), Kind: 3}, "\x01s"+all48+all32+"\x3f\x03")
	wrong("Phys above MaxTime", api.Seen{Key: "s", Stamp: at(lastTime+1, 0, 0), Kind: 3}, api.ErrForm)
	wrong("Phys 2^62 - 1", api.Seen{Key: "s", Stamp: at(aboveAll-1, 0, 0), Kind: 3}, api.ErrForm)
	unpackable(t, "Phys 2^62", seen(api.Seen{Key: "s", Stamp: at(aboveAll, 0, 0), Kind: 3}), api.ErrArg)
	unpackable(t, "Phys 2^64 - 1", seen(api.Seen{Key: "s", Stamp: at(math.MaxUint64, 0, 0), Kind: 3}), api.ErrArg)
	for name, s := range map[string]string{
		"Phys 2^48": "\x01s" + over48 + "\x00\x00\x01", "Logical 2^32": "\x01s\x00" + over32 + "\x00\x01", "Logical 2^62 - 1": "\x01s\x00" + all62 + "\x00\x01",
		"Node 2^8 + 1": "\x01s\x00\x00\x41\x01\x01", "Kind 2^8 + 1": "\x01s\x00\x00\x00\x41\x01", "Kind 2^32 + 1": "\x01s\x00\x00\x00\xc0\x00\x00\x01\x00\x00\x00\x01",
		"Phys in two bytes": "\x01s\x40\x01\x00\x00\x01", "Logical in two bytes": "\x01s\x00\x40\x01\x00\x01", "Node in two bytes": "\x01s\x00\x00\x40\x01\x01", "Kind in two bytes": "\x01s\x00\x00\x00\x40\x01", "Key's length in two bytes": "\x40\x01s\x00\x00\x00\x01",
	} {
		refused(t, name, sealed(front+s+"\x00"), api.ErrForm)
	}
}

// P22.1: digests, each of them in two halves.
func TestDigests(t *testing.T) {
	digest := func(d uint64) api.Msg { return api.Msg{Kind: 11, Digests: []uint64{7, d}} }
	front := noughts[:8] + "\x02\x00\x07"
	for d, want := range map[uint64]string{
		0: "\x00\x00", 1: "\x00\x01", 63: "\x00\x3f", 64: "\x00\x40\x40",
		1<<32 - 1: "\x00" + all32, 1 << 32: "\x01\x00", 1<<32 + 1: "\x01\x01", 5<<32 - 1: "\x04" + all32,
		1 << 62: "\xc0\x00\x00\x00\x40\x00\x00\x00\x00", 1 << 63: "\xc0\x00\x00\x00\x80\x00\x00\x00\x00",
		math.MaxUint64 - lastWord: all32 + "\x00", math.MaxUint64: all32 + all32,
	} {
		packs(t, fmt.Sprint("digest ", d), digest(d), front+want)
	}
	for name, s := range map[string]string{
		"high 2^32": over32 + "\x00", "high 2^62 - 1": all62 + "\x00", "low 2^32": "\x00" + over32, "low 2^62 - 1": "\x00" + all62, "both 2^32": over32 + over32,
		"high in two bytes": "\x40\x01\x00", "low in two bytes": "\x00\x40\x01",
	} {
		refused(t, name, sealed(front+s), api.ErrForm)
	}
}

// lasting is a message whose body has so many bytes, at most 2^20 and a few.
func lasting(t *testing.T, size int) api.Msg {
	t.Helper()
	m := api.Msg{Kind: 14, From: 9, To: 8, Recs: slices.Repeat([]api.Rec{{Key: "k", Kind: 3, Body: strings.Repeat("\xff", 1024)}}, 1010)}
	left := size - len(body(m))
	for left > 1100 {
		m.Recs = append(m.Recs, m.Recs[0])
		left = size - len(body(m))
	}
	// A Key with its length has from 66 to 252 bytes, but for a text of 64.
	for left > 0 {
		n := min(left, 252)
		if left > n && left-n < 66 {
			n -= 66
		}
		m.Keys = append(m.Keys, strings.Repeat("k", n-2))
		left -= n
	}
	if got := len(body(m)); got != size {
		t.Fatalf("%d bytes, not %d", got, size)
	}
	return m
}

// P22.1, P22.2: bodies about as long as a frame's may be; whether the message may be is asked ahead of that.
func TestLongest(t *testing.T) {
	for _, size := range []int{longest - 2, longest - 1, longest} {
		m := lasting(t, size)
		packs(t, fmt.Sprint(size, " bytes"), m, body(m))
		s, _ := slowPack(m)
		refused(t, "cut", s[:len(s)-1], api.ErrShort)
		refused(t, "a byte more", s+"\x00", api.ErrForm)
	}
	farLonger := api.Msg{Kind: 1, Recs: slices.Repeat([]api.Rec{{Key: strings.Repeat("k", 250), Kind: 3, Body: strings.Repeat("x", 1024)}}, 4096)}
	for _, m := range []api.Msg{lasting(t, longest+1), lasting(t, longest+2), lasting(t, longest+300), farLonger} {
		unpackable(t, "too long", m, api.ErrLong)
		refused(t, "too long", framed(m.Kind, m.From, m.To, body(m)), api.ErrLong)
		for name, change := range map[string]func(m *api.Msg){
			"Kind 0":        func(m *api.Msg) { m.Kind = 0 },
			"Kind 15":       func(m *api.Msg) { m.Kind = 15 },
			"From 64":       func(m *api.Msg) { m.From = 64 },
			"To 64":         func(m *api.Msg) { m.To = 64 },
			"Target 64":     func(m *api.Msg) { m.Target = 64 },
			"Range 64":      func(m *api.Msg) { m.Range = 64 },
			"State 0":       func(m *api.Msg) { m.News = []api.News{{}} },
			"an empty Key":  func(m *api.Msg) { m.Keys = append(slices.Clone(m.Keys), "") },
			"a Rec":         func(m *api.Msg) { m.Recs = append(slices.Clone(m.Recs), api.Rec{}) },
			"a Seen":        func(m *api.Msg) { m.Seen = []api.Seen{{Key: "a"}} },
			"4097 Digests":  func(m *api.Msg) { m.Digests = make([]uint64, 4097) },
			"100000 of all": func(m *api.Msg) { m.Digests = make([]uint64, 100000) },
		} {
			bad := m
			change(&bad)
			unpackable(t, name, bad, api.ErrArg)
		}
	}
}

// P22.1: each of a list counts, wherever it stands: the first, the last, one between.
func TestOneOfManyMayNotBe(t *testing.T) {
	for _, n := range []int{1, 2, 3, 100, 4096} {
		for _, at := range []int{0, n / 2, n - 1} {
			news, keys, recs, seen := make([]api.News, n), make([]string, n), make([]api.Rec, n), make([]api.Seen, n)
			for i := range n {
				news[i] = api.News{Member: member(1, uint32(i))}
				keys[i] = "k"
				recs[i] = marker()
				seen[i] = api.Seen{Key: "k", Kind: 1}
			}
			packs(t, "right", api.Msg{Kind: 1, News: news, Keys: keys, Recs: recs, Seen: seen}, body(api.Msg{News: news, Keys: keys, Recs: recs, Seen: seen}))
			news[at].Member.State, keys[at], recs[at].Kind, seen[at].Kind = 5, " ", 4, 4
			for _, m := range []api.Msg{{Kind: 1, News: news}, {Kind: 1, Keys: keys}, {Kind: 1, Recs: recs}, {Kind: 1, Seen: seen}} {
				unpackable(t, fmt.Sprint(at, " of ", n), m, api.ErrArg)
				refused(t, fmt.Sprint(at, " of ", n), sealed(body(m)), api.ErrForm)
			}
		}
	}
}

// P22.1: bytes that layer 4 refuses, with its errors, whatever stands in the body.
func TestFrameErrors(t *testing.T) {
	for _, b := range []string{noughts, body(full()), "", "\x40", strings.Repeat("\xff", 40), noughts + "\x00"} {
		whole := framed(5, 1, 2, b)
		for end := range min(len(whole), 12) {
			refused(t, "fewer than 12 bytes", whole[:end], api.ErrShort)
		}
		changed := func(at int, x byte) string {
			s := []byte(whole[:len(whole)-4])
			s[at] = x
			return string(s) + whole[len(whole)-4:]
		}
		resealed := func(at int, x byte) string {
			s := []byte(whole)
			s[at] = x
			return framed(s[1], s[2], s[3], b)
		}
		for _, version := range []byte{0, 2, 255} {
			refused(t, "version", changed(0, version), api.ErrForm)
		}
		for _, kind := range []byte{0, 15, 255} {
			refused(t, "kind", resealed(1, kind), api.ErrForm)
			refused(t, "kind, another sum", changed(1, kind), api.ErrForm)
		}
		for _, node := range []byte{64, 65, 255} {
			for _, at := range []int{2, 3} {
				refused(t, "node", resealed(at, node), api.ErrForm)
				refused(t, "node, another sum", changed(at, node), api.ErrForm)
			}
		}
		refused(t, "a longer body than may be", changed(4, 1), api.ErrLong)
		refused(t, "fewer bytes than it says", changed(5, 1), api.ErrShort)
		refused(t, "its last byte is missing", whole[:len(whole)-1], api.ErrShort)
		refused(t, "more bytes than it says", whole+"\x00", api.ErrForm)
		refused(t, "two frames", whole+whole, api.ErrForm)
		refused(t, "another sum", changed(1, 6), api.ErrSum)
		refused(t, "no sum", whole[:len(whole)-4]+"\x00\x00\x00\x00", api.ErrSum)
	}
	refused(t, "text", "get a\r\nget b\r\n", api.ErrForm)
	refused(t, "nothing", "", api.ErrShort)
}

// P22.1: a right sum, and a body that is cut at every place, or has a byte more.
func TestCutAndLengthened(t *testing.T) {
	for _, m := range each() {
		b := body(m)
		for end := range len(b) {
			refused(t, "cut", sealed(b[:end]), api.ErrShort)
		}
		for i := range 256 {
			refused(t, "a byte more", sealed(b+string([]byte{byte(i)})), api.ErrForm)
		}
		refused(t, "twice", sealed(b+b), api.ErrForm)
	}
}

// changed is a body in which one part's bytes are others.
func changed(l []part, at int, bytes string) string {
	l = slices.Clone(l)
	l[at].bytes = bytes
	return joined(l)
}

// P22.1: each number of a message in turn: at its least and greatest, one below and above, in more bytes than it needs.
func TestEachNumber(t *testing.T) {
	c := New()
	for _, m := range each() {
		l := parts(m)
		for at, p := range l {
			if p.text {
				continue
			}
			for _, n := range []uint64{0, 1, 2, 3, 4, 5, 62, 63, 64, 65, 255, 256, 257, 4095, 4096, 4097, 1<<32 - 1, 1 << 32, 1<<32 + 1, 1<<48 - 1, 1 << 48, 1<<62 - 1} {
				s := sealed(changed(l, at, number(n)))
				_, e := checkUnpack(t, c, s)
				switch {
				case p.inRec || p.count && n <= p.most:
					// The record as a whole counts, or what stands behind is read as something else: as reckoned.
				case n < p.least || n > p.most:
					refused(t, fmt.Sprint(p.name, " ", n), s, api.ErrForm)
				case e != api.OK:
					t.Errorf("%s %d: %d", p.name, n, e)
				}
			}
			n := least(p.bytes)
			for _, size := range []int{2, 4, 8} {
				if size > len(p.bytes) {
					refused(t, fmt.Sprint(p.name, " in ", size, " bytes"), sealed(changed(l, at, wide(n, size))), api.ErrForm)
				}
			}
		}
	}
}

// least is the number whose bytes these are.
func least(bytes string) uint64 {
	n := uint64(bytes[0] % 64)
	for _, c := range []byte(bytes[1:]) {
		n = n*256 + uint64(c)
	}
	return n
}

// P22.1: each text of a message in turn: of every length about the bounds, longer than what follows, its length in more bytes than it needs.
func TestEachText(t *testing.T) {
	c := New()
	for _, m := range each() {
		l := parts(m)
		for at, p := range l {
			if !p.text {
				continue
			}
			for _, n := range []uint64{0, 1, 63, 64, 249, 250, 251, 1023, 1024, 1025, 20000} {
				s := sealed(changed(l, at, number(n)+strings.Repeat("x", int(n))))
				_, e := checkUnpack(t, c, s)
				want := api.OK
				switch {
				case n > p.most:
					want = api.ErrLong
				case n == 0 && p.most == 250:
					want = api.ErrForm
				}
				if e != want {
					t.Errorf("%s of %d bytes: %d, not %d", p.name, n, e, want)
				}
			}
			for _, n := range []uint64{p.most + 1, 1025, 1 << 20, 1 << 32, 1<<62 - 1} {
				refused(t, fmt.Sprint(p.name, " said to have ", n, " bytes"), sealed(changed(l, at, number(n))), api.ErrLong)
			}
			for _, size := range []int{2, 4, 8} {
				if size > len(p.bytes)-len(p.words) {
					refused(t, fmt.Sprint(p.name, "'s length in ", size, " bytes"), sealed(changed(l, at, wide(uint64(len(p.words)), size)+p.words)), api.ErrForm)
				}
			}
			// The last bytes of all are its: it says more than there are.
			l[at].bytes = number(p.most) + strings.Repeat("x", int(p.most)-1)
			refused(t, p.name+", cut", sealed(joined(l[:at+1])), api.ErrShort)
			l[at] = p
		}
	}
}

// P22.1: counts that the body doesn't keep: too few or too many follow.
func TestCounts(t *testing.T) {
	c := New()
	for _, x := range []struct {
		name, b string
		want    api.Errno
	}{
		{"one News, and none", head + "\x01\x00\x00\x00\x00", api.ErrForm},
		{"one News, and its bytes end", head + "\x01\x00\x01", api.ErrShort},
		{"two News, and one", head + "\x02\x05\x01\x09" + noughts[:4], api.ErrForm},
		{"no News, and one, which is read as five Keys, the first of a byte 9", head + "\x00\x05\x01\x09" + noughts[:4], api.ErrForm},
		{"one Key, and none", head + "\x00\x01\x00\x00\x00", api.ErrForm},
		{"two Keys, and one", head + "\x00\x02\x01k\x00\x00\x00", api.ErrForm},
		{"no Keys, and one, which is read as a Rec with a Key of 11008 bytes", head + "\x00\x00\x01k\x00\x00\x00", api.ErrLong},
		{"one Rec, and none", head + "\x00\x00\x01\x00\x00", api.ErrShort},
		{"no Recs, and one, which is read as a Seen with a Key of 8449 bytes", head + "\x00\x00\x00\x01a\x01\x02\x03\x01\x00\x00", api.ErrLong},
		{"one Seen, and none", head + "\x00\x00\x00\x01\x00", api.ErrForm},
		{"two Seen, and one", head + "\x00\x00\x00\x02\x01s\x00\x00\x00\x01\x00", api.ErrForm},
		{"one digest, and none", head + "\x00\x00\x00\x00\x01", api.ErrShort},
		{"one digest, and a half", head + "\x00\x00\x00\x00\x01\x05", api.ErrShort},
		{"two digests, and one", head + "\x00\x00\x00\x00\x02\x05\x06", api.ErrShort},
		{"no digests, and one", head + "\x00\x00\x00\x00\x00\x05\x06", api.ErrForm},
		{"one digest, and two", head + "\x00\x00\x00\x00\x01\x05\x06\x07\x08", api.ErrForm},
		{"4096 News, and nothing", head + "\x50\x00", api.ErrShort},
		{"4097 News, and nothing", head + "\x50\x01", api.ErrForm},
		{"4096 Keys, and nothing", head + "\x00\x50\x00", api.ErrShort},
		{"4097 Keys, and nothing", head + "\x00\x50\x01", api.ErrForm},
		{"4096 Recs, and nothing", head + "\x00\x00\x50\x00", api.ErrShort},
		{"4097 Recs, and nothing", head + "\x00\x00\x50\x01", api.ErrForm},
		{"4096 Seen, and nothing", head + "\x00\x00\x00\x50\x00", api.ErrShort},
		{"4097 Seen, and nothing", head + "\x00\x00\x00\x50\x01", api.ErrForm},
		{"4096 digests, and nothing", head + "\x00\x00\x00\x00\x50\x00", api.ErrShort},
		{"4097 digests, and nothing", head + "\x00\x00\x00\x00\x50\x01", api.ErrForm},
		{"2^62 - 1 News, and nothing", head + all62, api.ErrForm},
		{"2^62 - 1 digests, and nothing", head + "\x00\x00\x00\x00" + all62, api.ErrForm},
		{"4096 digests, and one less", head + "\x00\x00\x00\x00\x50\x00" + strings.Repeat("\x05\x06", 4095), api.ErrShort},
		{"4096 digests, and one more", head + "\x00\x00\x00\x00\x50\x00" + strings.Repeat("\x05\x06", 4097), api.ErrForm},
	} {
		refused(t, x.name, sealed(x.b), x.want)
		checkUnpack(t, c, sealed(x.b))
	}
}

// wrongs are ways in which a part may be wrong, which are told right there.
func (p part) wrongs() map[string]api.Errno {
	l := map[string]api.Errno{}
	if p.text {
		l[number(p.most+1)] = api.ErrLong
		l["\x40\x01x"] = api.ErrForm
		if !p.inRec {
			l["\x00"], l["\x03a b"] = api.ErrForm, api.ErrForm
		}
		return l
	}
	l["\x40\x01"] = api.ErrForm
	if p.most < aboveAll-1 {
		l[number(p.most+1)], l[all62] = api.ErrForm, api.ErrForm
	}
	if p.least > 0 {
		l[number(p.least-1)] = api.ErrForm
	}
	return l
}

// P22.1, R6: of several faults the first one from the front counts: one of another error behind it, or that the body ends behind it, plays no part.
func TestFirstFaultFirst(t *testing.T) {
	l := parts(full())
	for i, p := range l {
		for wrong, want := range p.wrongs() {
			first := slices.Clone(l)
			first[i].bytes = wrong
			refused(t, p.name, sealed(joined(first)), want)
			refused(t, p.name+", and nothing behind it", sealed(joined(first[:i+1])), want)
			refused(t, p.name+", and more behind all", sealed(joined(first)+"\x00"), want)
			for j := i + 1; j < len(l); j++ {
				for other, otherWant := range l[j].wrongs() {
					if otherWant != want {
						first[j].bytes = other
						refused(t, p.name+", and behind it "+l[j].name, sealed(joined(first)), want)
					}
				}
				first[j] = l[j]
			}
		}
	}
}

// P22.1, R6: that a record may not be is told when its bytes were read, as layer 6 says: what can't be read of it comes ahead, what is wrong behind it doesn't.
func TestFaultsInRecs(t *testing.T) {
	const front = head + "\x00\x00\x01"
	for _, x := range []struct {
		name, b string
		want    api.Errno
	}{
		{"a Key with a blank, and its bytes end", front + "\x01 \x01\x02\x03", api.ErrShort},
		{"an empty Key, and its bytes end", front + "\x00\x01\x02", api.ErrShort},
		{"Node 64, and its bytes end", front + "\x01a\x01\x02\x40\x40", api.ErrShort},
		{"Node 64, and its Body is too long", front + "\x01a\x01\x02\x40\x40\x03\x00\x00\x44\x01", api.ErrLong},
		{"Node 2^8, and its bytes end", front + "\x01a\x01\x02\x41\x00", api.ErrForm},
		{"Kind 4, and nothing behind it", front + "\x01a\x01\x02\x03\x04", api.ErrForm},
		{"Phys above MaxTime, and its bytes end", front + "\x01a" + over48, api.ErrShort},
		{"Phys above MaxTime, and nothing behind it", front + "\x01a" + over48 + "\x02\x03\x01", api.ErrForm},
		{"Expiry above MaxTime, and its Body is too long", front + "\x01a\x01\x02\x03\x03\x05" + over48 + "\x44\x01", api.ErrLong},
		{"a right one, and nothing behind it", front + "\x01a\x01\x02\x03\x01", api.ErrShort},
		{"a Key with a blank, and a Seen's Key is too long", front + "\x01 \x01\x02\x03\x01\x01\x40\xfb", api.ErrForm},
		{"a Body that is too long, and 4097 Seen", front + "\x01a\x01\x02\x03\x03\x05\x07\x44\x01\x50\x01", api.ErrLong},
	} {
		refused(t, x.name, sealed(x.b), x.want)
	}
}
