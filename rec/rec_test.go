package rec

import (
	"bytes"
	"encoding/binary"
	"math"
	"math/big"
	"math/rand/v2"
	"slices"
	"strings"
	"testing"
	"unsafe"

	"tattler/api"
)

// The limits, written out apart from the program's.
const (
	lastTime    = 281474976710655
	lastLogical = 4294967295
	longestKey  = 250
	longestBody = 1024
)

// slowKeyMay strikes out what may not be, and holds what is left against the whole.
func slowKeyMay(key string) bool {
	var left []byte
	for _, b := range []byte(key) {
		switch {
		case b >= 33 && b <= 126, b >= 128:
			left = append(left, b)
		}
	}
	return len(left) == len(key) && len(key) != 0 && len(key) < 251
}

// slowMay is the chapter's words, one behind the other.
func slowMay(r api.Rec) bool {
	plain := r.Flags == 0 && r.Expiry == 0 && len(r.Body) == 0
	return slowKeyMay(r.Key) &&
		r.Stamp.Phys>>48 == 0 &&
		r.Stamp.Node>>6 == 0 &&
		(r.Kind == 3 || plain && (r.Kind == 1 || r.Kind == 2)) &&
		r.Expiry>>48 == 0 &&
		!(len(r.Body) > longestBody)
}

// weight is a record without its key as bytes whose plain order is the records': each body byte has a 1 ahead of it, and a 0 stands behind them all, so that a beginning comes first.
func weight(r api.Rec) []byte {
	b := binary.BigEndian.AppendUint64(nil, r.Stamp.Phys)
	b = binary.BigEndian.AppendUint32(b, r.Stamp.Logical)
	b = append(b, r.Stamp.Node, r.Kind)
	for _, c := range []byte(r.Body) {
		b = append(b, 1, c)
	}
	b = append(b, 0)
	b = binary.BigEndian.AppendUint32(b, r.Flags)
	return binary.BigEndian.AppendUint64(b, r.Expiry)
}

func slowCompare(a, b api.Rec) int { return bytes.Compare(weight(a), weight(b)) }

// slowNumber is a number's bytes by layer 3's words.
func slowNumber(n uint64) []byte {
	switch {
	case n < 64:
		return []byte{byte(n)}
	case n < 16384:
		return binary.BigEndian.AppendUint16(nil, uint16(n+16384))
	case n < 1073741824:
		return binary.BigEndian.AppendUint32(nil, uint32(n+2147483648))
	}
	return binary.BigEndian.AppendUint64(nil, n+3<<62)
}

func slowText(t string) []byte { return append(slowNumber(uint64(len(t))), t...) }

// laid is a record's bytes, whether it may be or not; a number from 2^62 on has none.
func laid(r api.Rec) string {
	l := [][]byte{slowText(r.Key), slowNumber(r.Stamp.Phys), slowNumber(uint64(r.Stamp.Logical)), slowNumber(uint64(r.Stamp.Node)), slowNumber(uint64(r.Kind))}
	if r.Kind == 3 {
		l = append(l, slowNumber(uint64(r.Flags)), slowNumber(r.Expiry), slowText(r.Body))
	}
	return string(bytes.Join(l, nil))
}

// slowGetNumber is layer 3's Get: the number, what is left behind it, an error.
func slowGetNumber(s string) (uint64, string, api.Errno) {
	if s == "" {
		return 0, "", api.ErrShort
	}
	size := []int{1, 2, 4, 8}[s[0]/64]
	if size > len(s) {
		return 0, "", api.ErrShort
	}
	n := new(big.Int).SetBytes([]byte(s[:size]))
	n.SetBit(n, size*8-1, 0).SetBit(n, size*8-2, 0)
	if string(slowNumber(n.Uint64())) != s[:size] {
		return 0, "", api.ErrForm
	}
	return n.Uint64(), s[size:], api.OK
}

func slowGetText(s string, most uint64) (string, string, api.Errno) {
	n, rest, e := slowGetNumber(s)
	if e != api.OK {
		return "", "", e
	}
	if n > most {
		return "", "", api.ErrLong
	}
	if n > uint64(len(rest)) {
		return "", "", api.ErrShort
	}
	return rest[:n], rest[n:], api.OK
}

// slowGet reads all fields of a record at a place, one behind the other, and leaves with the first error.
func slowGet(s string, at int) (api.Rec, int, api.Errno) {
	if at < 0 || at > len(s) {
		return api.Rec{}, 0, api.ErrArg
	}
	var r api.Rec
	key, rest, e := slowGetText(s[at:], longestKey)
	if e != api.OK {
		return api.Rec{}, 0, e
	}
	r.Key = key
	fields := []struct {
		limit uint64
		set   func(n uint64)
	}{
		{math.MaxUint64, func(n uint64) { r.Stamp.Phys = n }},
		{lastLogical, func(n uint64) { r.Stamp.Logical = uint32(n) }},
		{255, func(n uint64) { r.Stamp.Node = uint8(n) }},
		{255, func(n uint64) { r.Kind = uint8(n) }},
		{lastLogical, func(n uint64) { r.Flags = uint32(n) }},
		{math.MaxUint64, func(n uint64) { r.Expiry = n }},
	}
	for i, f := range fields {
		if i == 4 && r.Kind != 3 {
			break
		}
		var n uint64
		if n, rest, e = slowGetNumber(rest); e != api.OK {
			return api.Rec{}, 0, e
		}
		if n > f.limit {
			return api.Rec{}, 0, api.ErrForm
		}
		f.set(n)
	}
	if r.Kind == 3 {
		if r.Body, rest, e = slowGetText(rest, longestBody); e != api.OK {
			return api.Rec{}, 0, e
		}
	}
	if !slowMay(r) {
		return api.Rec{}, 0, api.ErrForm
	}
	return r, len(s) - len(rest), api.OK
}

// slowMix is layer 1's words in numbers that never wrap round by themselves.
func slowMix(x *big.Int) *big.Int {
	whole := new(big.Int).Lsh(big.NewInt(1), 64)
	half := func(x *big.Int, bits uint, factor uint64) *big.Int {
		y := new(big.Int).Rsh(x, bits)
		y.Xor(y, x)
		y.Mul(y, new(big.Int).SetUint64(factor))
		return y.Mod(y, whole)
	}
	x = half(x, 30, 0xBF58476D1CE4E5B9)
	x = half(x, 27, 0x94D049BB133111EB)
	return half(x, 31, 1)
}

func slowDigest(r api.Rec) uint64 {
	xor := func(x *big.Int, n uint64) *big.Int {
		return new(big.Int).Xor(x, new(big.Int).SetUint64(n))
	}
	h := new(big.Int).SetUint64(0x9E3779B97F4A7C15)
	for _, b := range []byte(r.Key) {
		h = slowMix(xor(h, uint64(b)))
	}
	h = slowMix(xor(h, uint64(len(r.Key))))
	for _, n := range []uint64{r.Stamp.Phys, uint64(r.Stamp.Logical), uint64(r.Stamp.Node), uint64(r.Kind)} {
		h = slowMix(xor(slowMix(h), n))
	}
	return h.Uint64()
}

func stamp(phys uint64, logical uint32, node uint8) api.Stamp {
	return api.Stamp{Phys: phys, Logical: logical, Node: node}
}

// marker, tomb and value are records of key a at (1, 2, 3).
func marker() api.Rec { return api.Rec{Key: "a", Stamp: stamp(1, 2, 3), Kind: api.Marker} }

func tomb() api.Rec { return api.Rec{Key: "a", Stamp: stamp(1, 2, 3), Kind: api.Tomb} }

func value() api.Rec {
	return api.Rec{Key: "a", Stamp: stamp(1, 2, 3), Kind: api.Value, Flags: 5, Expiry: 7, Body: "xy"}
}

// with is a record with something done to it.
func with(r api.Rec, change func(r *api.Rec)) api.Rec {
	change(&r)
	return r
}

// dice draws what tests are made of: always the same, so that a test fails each time or never.
type dice struct{ *rand.Rand }

func newDice(seed uint64) dice { return dice{rand.New(rand.NewPCG(seed, 6))} }

func one[T any](d dice, l ...T) T { return l[d.IntN(len(l))] }

func (d dice) key() string {
	size := one(d, 1, 1, 2, 3, 63, 64, 65, 249, 250)
	b := make([]byte, size)
	for i := range b {
		for b[i] <= 32 || b[i] == 127 {
			b[i] = one(d, byte(33), 126, 128, 255, 'a', 'b', byte(d.IntN(256)))
		}
	}
	return string(b)
}

func (d dice) body() string {
	b := make([]byte, one(d, 0, 0, 1, 2, 2, 3, 63, 64, 1023, 1024))
	for i := range b {
		b[i] = one(d, byte(0), 1, 127, 128, 255, byte(d.IntN(256)))
	}
	return string(b)
}

func (d dice) time() uint64 {
	return one(d, uint64(0), 1, 2, 63, 64, 16383, 16384, 1073741823, 1073741824, lastTime-1, lastTime, d.Uint64N(lastTime+1))
}

func (d dice) word() uint32 {
	return one(d, uint32(0), 1, 2, 63, 64, 16383, 16384, 1073741823, 1073741824, lastLogical-1, lastLogical, d.Uint32())
}

// rec is one that may be.
func (d dice) rec() api.Rec {
	r := api.Rec{Key: d.key(), Stamp: stamp(d.time(), d.word(), one(d, uint8(0), 1, 62, 63, uint8(d.IntN(64)))), Kind: uint8(1 + d.IntN(3))}
	if r.Kind == api.Value {
		r.Flags, r.Expiry, r.Body = d.word(), d.time(), d.body()
	}
	return r
}

// any is a record with no care whether it may be: most of them are wrong in one thing or in several.
func (d dice) any() api.Rec {
	r := d.rec()
	for range d.IntN(3) {
		switch d.IntN(8) {
		case 0:
			r.Key = one(d, "", " ", "a b", "\x7f", "a\n", strings.Repeat("k", 251))
		case 1:
			r.Stamp.Phys = one(d, uint64(lastTime+1), 1<<62-1, 1<<62, math.MaxUint64, d.Uint64())
		case 2:
			r.Stamp.Node = uint8(d.IntN(256))
		case 3:
			r.Kind = one(d, uint8(0), 1, 2, 3, 4, 255, uint8(d.IntN(256)))
		case 4:
			r.Expiry = one(d, uint64(1), lastTime+1, 1<<62-1, 1<<62, math.MaxUint64, d.Uint64())
		case 5:
			r.Body = one(d, "x", strings.Repeat("b", 1025), strings.Repeat("b", 1024))
		case 6:
			r.Flags = d.word()
		case 7:
			r.Kind = uint8(1 + d.IntN(3))
		}
	}
	return r
}

// near is a record out of few, so that two of them are often the same in most things.
func (d dice) near() api.Rec {
	return api.Rec{Key: "k", Stamp: stamp(d.Uint64N(2), uint32(d.IntN(2)), uint8(d.IntN(2))), Kind: uint8(1 + d.IntN(3)), Body: one(d, "", "a", "aa", "ab", "b", "\xff"), Flags: uint32(d.IntN(2)), Expiry: d.Uint64N(2)}
}

// P6.1: how long a key is, and each byte at each end and in the middle.
func TestKeyMay(t *testing.T) {
	for n, want := range map[int]bool{0: false, 1: true, 2: true, 249: true, 250: true, 251: false, 252: false, 1000: false, 65786: false} {
		if got := KeyMay(strings.Repeat("k", n)); got != want {
			t.Errorf("%d bytes: %t", n, got)
		}
	}
	for c, want := range map[byte]bool{0: false, 10: false, 13: false, 31: false, 32: false, 33: true, 126: true, 127: false, 128: true, 160: true, 255: true} {
		if got := KeyMay(string([]byte{c})); got != want {
			t.Errorf("byte %d: %t", c, got)
		}
	}
	for c := range 256 {
		for _, size := range []int{1, 2, 3, 250} {
			for _, at := range []int{0, size / 2, size - 1} {
				b := bytes.Repeat([]byte{'k'}, size)
				b[at] = byte(c)
				if got, want := KeyMay(string(b)), slowKeyMay(string(b)); got != want {
					t.Errorf("byte %d at %d of %d: %t", c, at, size, got)
				}
			}
		}
	}
}

// P6.1: bytes count, not letters of more than one byte; bytes that are no letters may be, too.
func TestKeyMayBytes(t *testing.T) {
	for key, want := range map[string]bool{
		"\u00e9":                            true,
		strings.Repeat("\u00e9", 125):       true,
		strings.Repeat("\u00e9", 125) + "k": false,
		strings.Repeat("\u00e9", 126):       false,
		"\xc3":                              true,
		"\xff\xfe\x80":                      true,
		"a\u00a0b":                          true,
		"a\tb":                              false,
		"a b":                               false,
		" a":                                false,
		"a ":                                false,
		"a\r\n":                             false,
		"a\x00":                             false,
	} {
		if got := KeyMay(key); got != want {
			t.Errorf("%q: %t", key, got)
		}
	}
}

// P6.1: each bound of each field, for each kind.
func TestMay(t *testing.T) {
	long, longer := strings.Repeat("k", 250), strings.Repeat("k", 251)
	full, fuller := strings.Repeat("\x00", 1024), strings.Repeat("\x00", 1025)
	for i, x := range []struct {
		want   bool
		change func(r *api.Rec)
	}{
		{true, func(r *api.Rec) {}},
		{false, func(r *api.Rec) { r.Key = "" }},
		{false, func(r *api.Rec) { r.Key = " " }},
		{true, func(r *api.Rec) { r.Key = "!" }},
		{true, func(r *api.Rec) { r.Key = "~" }},
		{false, func(r *api.Rec) { r.Key = "\x7f" }},
		{true, func(r *api.Rec) { r.Key = "\x80" }},
		{true, func(r *api.Rec) { r.Key = "\xff" }},
		{true, func(r *api.Rec) { r.Key = long }},
		{false, func(r *api.Rec) { r.Key = longer }},
		{true, func(r *api.Rec) { r.Stamp = stamp(0, 0, 0) }},
		{true, func(r *api.Rec) { r.Stamp.Phys = lastTime }},
		{false, func(r *api.Rec) { r.Stamp.Phys = lastTime + 1 }},
		{false, func(r *api.Rec) { r.Stamp.Phys = math.MaxUint64 }},
		{true, func(r *api.Rec) { r.Stamp.Logical = lastLogical }},
		{true, func(r *api.Rec) { r.Stamp.Node = 63 }},
		{false, func(r *api.Rec) { r.Stamp.Node = 64 }},
		{false, func(r *api.Rec) { r.Stamp.Node = 255 }},
		{false, func(r *api.Rec) { r.Kind = 0 }},
		{false, func(r *api.Rec) { r.Kind = 4 }},
		{false, func(r *api.Rec) { r.Kind = 255 }},
		{false, func(r *api.Rec) { r.Expiry = lastTime + 1 }},
		{false, func(r *api.Rec) { r.Expiry = math.MaxUint64 }},
		{false, func(r *api.Rec) { r.Body = fuller }},
	} {
		for _, r := range []api.Rec{marker(), tomb(), value(), {Key: "a", Kind: api.Value}} {
			r := with(r, x.change)
			if got := May(r); got != x.want {
				t.Errorf("%d, kind %d: %t", i, r.Kind, got)
			}
		}
	}
	for i, change := range []func(r *api.Rec){
		func(r *api.Rec) { r.Flags = 1 },
		func(r *api.Rec) { r.Flags = lastLogical },
		func(r *api.Rec) { r.Expiry = 1 },
		func(r *api.Rec) { r.Expiry = lastTime },
		func(r *api.Rec) { r.Body = "x" },
		func(r *api.Rec) { r.Body = "\x00" },
		func(r *api.Rec) { r.Body = full },
	} {
		if May(with(marker(), change)) || May(with(tomb(), change)) || !May(with(value(), change)) {
			t.Error("content", i)
		}
	}
	if May(api.Rec{}) {
		t.Error("the zero record")
	}
}

// P6.1: every kind that is, and every one that isn't.
func TestMayKinds(t *testing.T) {
	for kind := range 256 {
		r := with(marker(), func(r *api.Rec) { r.Kind = uint8(kind) })
		if got, want := May(r), kind == 1 || kind == 2 || kind == 3; got != want {
			t.Errorf("kind %d: %t", kind, got)
		}
		r = with(value(), func(r *api.Rec) { r.Kind = uint8(kind) })
		if got, want := May(r), kind == 3; got != want {
			t.Errorf("kind %d with content: %t", kind, got)
		}
	}
}

// P6.1: many records, right and wrong ones, against the words.
func TestMayAsSaid(t *testing.T) {
	d := newDice(1)
	right := 0
	for range 20000 {
		r := d.any()
		if got, want := May(r), slowMay(r); got != want {
			t.Fatalf("%+v: %t", r, got)
		}
		if May(r) {
			right++
		}
	}
	if right < 5000 || right > 15000 {
		t.Errorf("%d of 20000 may be: the test tells little", right)
	}
}

// inOrder is one row of records, each ahead of the next: of each thing that counts, the least and the greatest beside what counts less.
func inOrder() []api.Rec {
	at := func(phys uint64, logical uint32, node, kind uint8, body string, flags uint32, expiry uint64) api.Rec {
		return api.Rec{Key: "k", Stamp: stamp(phys, logical, node), Kind: kind, Body: body, Flags: flags, Expiry: expiry}
	}
	full := strings.Repeat("\xff", 1024)
	return []api.Rec{
		{},
		at(0, 0, 0, 1, "", 0, 0),
		at(0, 0, 0, 2, "", 0, 0),
		at(0, 0, 0, 3, "", 0, 0),
		at(0, 0, 0, 3, "", 0, 1),
		at(0, 0, 0, 3, "", 0, lastTime),
		at(0, 0, 0, 3, "", 1, 0),
		at(0, 0, 0, 3, "", 2, 0),
		at(0, 0, 0, 3, "", lastLogical, lastTime),
		at(0, 0, 0, 3, "\x00", 0, 0),
		at(0, 0, 0, 3, "\x00\x00", 0, 0),
		at(0, 0, 0, 3, "\x01", 0, 0),
		at(0, 0, 0, 3, "a", 0, 0),
		at(0, 0, 0, 3, "a", lastLogical, lastTime),
		at(0, 0, 0, 3, "a\x00", 0, 0),
		at(0, 0, 0, 3, "aa", 0, 0),
		at(0, 0, 0, 3, "ab", 0, 0),
		at(0, 0, 0, 3, "b", 0, 0),
		at(0, 0, 0, 3, "\x7f", 0, 0),
		at(0, 0, 0, 3, "\x80", 0, 0),
		at(0, 0, 0, 3, full[:1023], lastLogical, lastTime),
		at(0, 0, 0, 3, full, 0, 0),
		at(0, 0, 0, 3, full, lastLogical, lastTime),
		at(0, 0, 0, 4, "", 0, 0),
		at(0, 0, 0, 255, full, 0, 0),
		at(0, 0, 1, 1, "", 0, 0),
		at(0, 0, 63, 3, full, lastLogical, lastTime),
		at(0, 0, 255, 1, "", 0, 0),
		at(0, 1, 0, 1, "", 0, 0),
		at(0, lastLogical, 63, 3, full, lastLogical, lastTime),
		at(1, 0, 0, 1, "", 0, 0),
		at(1, 2, 3, 1, "", 0, 0),
		at(1, 2, 3, 2, "", 0, 0),
		at(1, 2, 3, 2, "x", 0, 0),
		at(1, 2, 3, 3, "", 0, 0),
		at(lastTime, 0, 0, 1, "", 0, 0),
		at(math.MaxUint64, 0, 0, 1, "", 0, math.MaxUint64),
	}
}

// P6.1: at one stamp a Value stands behind a Tomb, that behind a Marker.
func TestExampleOrder(t *testing.T) {
	m, d, v := marker(), tomb(), api.Rec{Key: "a", Stamp: stamp(1, 2, 3), Kind: api.Value}
	if Compare(m, d) != -1 || Compare(d, v) != -1 || Compare(m, v) != -1 || Compare(v, d) != 1 || Compare(d, m) != 1 || Compare(v, m) != 1 {
		t.Error("kinds")
	}
	if Join(m, d) != d || Join(d, v) != v || Join(v, m) != v || Join(d, m) != d {
		t.Error("joins")
	}
}

// P6.1: how each two of the row stand to each other, and which of them is the join; keys play no part, so of two that stand alike it is the first.
func TestCompareAndJoin(t *testing.T) {
	l := inOrder()
	for i, a := range l {
		for k, b := range l {
			want := 0
			if i < k {
				want = -1
			} else if i > k {
				want = 1
			}
			for _, keys := range [][2]string{{"k", "k"}, {"a", "z"}, {"z", "a"}, {"", "z"}} {
				a, b := a, b
				a.Key, b.Key = keys[0], keys[1]
				later := a
				if i < k {
					later = b
				}
				if got := Compare(a, b); got != want {
					t.Errorf("Compare %d, %d: %d", i, k, got)
				}
				if got := Join(a, b); got != later {
					t.Errorf("Join %d, %d: %+v", i, k, got)
				}
			}
		}
	}
}

// P6.1, P6.2: what differs in one thing alone stands ahead or behind by that; what counts more outweighs all that counts less.
func TestCompareParts(t *testing.T) {
	base := api.Rec{Key: "k", Stamp: stamp(5, 5, 5), Kind: api.Tomb, Body: "mm", Flags: 5, Expiry: 5}
	type part struct{ less, more func(r *api.Rec) }
	parts := []part{
		{func(r *api.Rec) { r.Stamp.Phys-- }, func(r *api.Rec) { r.Stamp.Phys++ }},
		{func(r *api.Rec) { r.Stamp.Logical-- }, func(r *api.Rec) { r.Stamp.Logical++ }},
		{func(r *api.Rec) { r.Stamp.Node-- }, func(r *api.Rec) { r.Stamp.Node++ }},
		{func(r *api.Rec) { r.Kind-- }, func(r *api.Rec) { r.Kind++ }},
		{func(r *api.Rec) { r.Body = "m" }, func(r *api.Rec) { r.Body = "mmm" }},
		{func(r *api.Rec) { r.Flags-- }, func(r *api.Rec) { r.Flags++ }},
		{func(r *api.Rec) { r.Expiry-- }, func(r *api.Rec) { r.Expiry++ }},
	}
	for i, p := range parts {
		// Each way for what counts less than part i.
		for ways := range 1 << (len(parts) - i - 1) {
			a, b := with(base, p.less), with(base, p.more)
			for k, q := range parts[i+1:] {
				if ways>>k&1 == 0 {
					q.more(&a)
					q.less(&b)
				} else {
					q.less(&a)
					q.more(&b)
				}
			}
			if Compare(a, b) != -1 || Compare(b, a) != 1 || Join(a, b) != b || Join(b, a) != b {
				t.Fatalf("part %d, %+v, %+v", i, a, b)
			}
		}
		a, b := with(base, p.less), with(base, p.more)
		if Compare(a, base) != -1 || Compare(base, a) != 1 || Compare(base, b) != -1 || Compare(b, base) != 1 {
			t.Errorf("part %d alone", i)
		}
	}
	other := with(base, func(r *api.Rec) { r.Key = "other" })
	if Compare(base, other) != 0 || Compare(other, base) != 0 || Join(base, other) != base || Join(other, base) != other {
		t.Error("the key alone")
	}
}

// P6.1: bodies go byte by byte, wherever they begin to differ, whatever letters the bytes make.
func TestCompareBodies(t *testing.T) {
	of := func(body string) api.Rec { return with(value(), func(r *api.Rec) { r.Body = body }) }
	for a := range 256 {
		for b := range 256 {
			x, y := of(string([]byte{byte(a)})), of(string([]byte{byte(b), 'q'}))
			want := -1
			if a > b {
				want = 1
			}
			if Compare(x, y) != want || Compare(y, x) != -want {
				t.Fatalf("bytes %d, %d", a, b)
			}
		}
	}
	long := strings.Repeat("\u00e9z", 341)
	for i := range len(long) {
		cut, low, high := of(long[:i]), of(long[:i]+"\x00"+long[i+1:]), of(long[:i]+"\xff")
		whole := of(long)
		if Compare(cut, whole) != -1 || Compare(whole, cut) != 1 || Compare(low, whole) != -1 || Compare(whole, high) != -1 || Compare(high, whole) != 1 {
			t.Fatal("place", i)
		}
	}
}

// P6.1, P6.2: many pairs, near ones and any, against the reckoning; 0 only of what is the same but for the key.
func TestCompareAsSaid(t *testing.T) {
	d := newDice(2)
	for i := range 40000 {
		a, b := d.near(), d.near()
		if i%4 == 0 {
			a, b = d.any(), d.any()
			if i%8 == 0 {
				b.Stamp, b.Kind = a.Stamp, a.Kind
			}
		}
		want := slowCompare(a, b)
		if got := Compare(a, b); got != want || Compare(b, a) != -want {
			t.Fatalf("%+v, %+v: %d", a, b, got)
		}
		same := b
		same.Key = a.Key
		if (want == 0) != (same == a) {
			t.Fatalf("%+v, %+v: %d of unlike ones", a, b, want)
		}
	}
}

// P6.2: of each three, what stands ahead of what stands ahead stands ahead.
func TestOrderOfThree(t *testing.T) {
	l := inOrder()
	d := newDice(3)
	for range 40 {
		l = append(l, d.near())
	}
	for _, a := range l {
		for _, b := range l {
			if Compare(a, b) != -1 {
				continue
			}
			for _, c := range l {
				if Compare(b, c) == -1 && Compare(a, c) != -1 {
					t.Fatalf("%+v, %+v, %+v", a, b, c)
				}
			}
		}
	}
}

// P6.2: sorted by Compare, whatever the row was, it is the same row.
func TestSorted(t *testing.T) {
	d := newDice(4)
	for range 200 {
		l := inOrder()
		d.Shuffle(len(l), func(i, k int) { l[i], l[k] = l[k], l[i] })
		slices.SortFunc(l, Compare)
		if !slices.Equal(l, inOrder()) {
			t.Fatal("not the row")
		}
	}
}

// permutations calls with each order of a list, as often as there are.
func permutations(l []api.Rec, n int, call func()) {
	if n < 2 {
		call()
		return
	}
	for i := range n {
		l[i], l[n-1] = l[n-1], l[i]
		permutations(l, n-1, call)
		l[i], l[n-1] = l[n-1], l[i]
	}
}

func joinLeft(l []api.Rec) api.Rec {
	r := l[0]
	for _, x := range l[1:] {
		r = Join(r, x)
	}
	return r
}

func joinRight(l []api.Rec) api.Rec {
	r := l[len(l)-1]
	for i := len(l) - 2; i >= 0; i-- {
		r = Join(l[i], r)
	}
	return r
}

// joinHalves joins as a tree does.
func joinHalves(l []api.Rec) api.Rec {
	if len(l) == 1 {
		return l[0]
	}
	return Join(joinHalves(l[:len(l)/2]), joinHalves(l[len(l)/2:]))
}

// P6.3: five records of one key, in each order, from the left, from the right and by halves.
func TestJoinEveryOrder(t *testing.T) {
	d := newDice(5)
	for range 100 {
		l := make([]api.Rec, 5)
		for i := range l {
			l[i] = d.near()
		}
		want := slices.MaxFunc(l, slowCompare)
		permutations(l, len(l), func() {
			if joinLeft(l) != want || joinRight(l) != want || joinHalves(l) != want {
				t.Fatalf("%+v: not %+v", l, want)
			}
		})
	}
}

// P6.3: any number of any records of one key, some of them twice.
func TestJoinMany(t *testing.T) {
	d := newDice(6)
	for i := range 300 {
		l := make([]api.Rec, 1+d.IntN(40))
		for k := range l {
			l[k] = d.any()
			if i%2 == 0 && k > 0 {
				l[k].Stamp = l[0].Stamp
			}
			l[k].Key = "k"
		}
		l = append(l, l[d.IntN(len(l))])
		want := slices.MaxFunc(l, slowCompare)
		for range 5 {
			d.Shuffle(len(l), func(i, k int) { l[i], l[k] = l[k], l[i] })
			if joinLeft(l) != want || joinRight(l) != want || joinHalves(l) != want {
				t.Fatalf("%d records: not %+v", len(l), want)
			}
		}
	}
}

// P6.3: of a record and itself it is that, whether it may be or not; and of two it is one of them.
func TestJoinSame(t *testing.T) {
	d := newDice(7)
	for range 5000 {
		a, b := d.any(), d.any()
		if Join(a, a) != a || Compare(a, a) != 0 {
			t.Fatalf("%+v and itself", a)
		}
		if j := Join(a, b); j != a && j != b {
			t.Fatalf("%+v, %+v: %+v", a, b, j)
		}
		if j := Join(Join(a, b), b); j != Join(a, b) {
			t.Fatalf("%+v, %+v twice: %+v", a, b, j)
		}
	}
}

// P6.1: below the Expiry, at it, above it; never over; nothing but a Value.
func TestLive(t *testing.T) {
	for _, x := range []struct {
		expiry, time uint64
		want         bool
	}{
		{7, 0, true}, {7, 6, true}, {7, 7, false}, {7, 8, false}, {7, math.MaxUint64, false},
		{0, 0, true}, {0, 1, true}, {0, lastTime, true}, {0, math.MaxUint64, true},
		{1, 0, true}, {1, 1, false}, {1, 2, false},
		{lastTime, lastTime - 1, true}, {lastTime, lastTime, false}, {lastTime, lastTime + 1, false},
		{lastTime + 1, lastTime, true}, {math.MaxUint64, math.MaxUint64 - 1, true}, {math.MaxUint64, math.MaxUint64, false},
		{1 << 63, 1<<63 - 1, true}, {1<<63 - 1, 1 << 63, false},
	} {
		for kind := range 256 {
			r := api.Rec{Key: "a", Stamp: stamp(9, 0, 0), Kind: uint8(kind), Expiry: x.expiry}
			if got, want := Live(r, x.time), kind == 3 && x.want; got != want {
				t.Errorf("kind %d, Expiry %d at %d: %t", kind, x.expiry, x.time, got)
			}
		}
	}
	if Live(marker(), 0) || Live(tomb(), 0) || !Live(value(), 6) || Live(value(), 7) || Live(api.Rec{}, 0) || !Live(api.Rec{Kind: api.Value}, 5) {
		t.Error("whole records")
	}
}

// P6.1: the chapter's example, and what else is put, byte by byte.
func TestPutValues(t *testing.T) {
	long, full := strings.Repeat("k", 250), strings.Repeat("b", 1024)
	for i, x := range []struct {
		r    api.Rec
		want string
	}{
		{marker(), "\x01a\x01\x02\x03\x01"},
		{tomb(), "\x01a\x01\x02\x03\x02"},
		{value(), "\x01a\x01\x02\x03\x03\x05\x07\x02xy"},
		{api.Rec{Key: "a", Kind: api.Value}, "\x01a\x00\x00\x00\x03\x00\x00\x00"},
		{api.Rec{Key: "\x80\xff!~", Stamp: stamp(64, 63, 63), Kind: api.Tomb}, "\x04\x80\xff!~\x40\x40\x3f\x3f\x02"},
		{api.Rec{Key: long, Stamp: stamp(lastTime, lastLogical, 63), Kind: api.Marker},
			"\x40\xfa" + long + "\xc0\x00\xff\xff\xff\xff\xff\xff\xc0\x00\x00\x00\xff\xff\xff\xff\x3f\x01"},
		{api.Rec{Key: "a", Stamp: stamp(16384, 16383, 0), Kind: api.Value, Flags: lastLogical, Expiry: lastTime, Body: full},
			"\x01a\x80\x00\x40\x00\x7f\xff\x00\x03\xc0\x00\x00\x00\xff\xff\xff\xff\xc0\x00\xff\xff\xff\xff\xff\xff\x44\x00" + full},
	} {
		if s, e := Put(x.r); s != x.want || e != api.OK {
			t.Errorf("%d: %q, %d", i, s, e)
		}
	}
}

// P6.1: what may not be isn't put, whatever is wrong with it.
func TestPutErrors(t *testing.T) {
	for i, r := range []api.Rec{
		{},
		with(value(), func(r *api.Rec) { r.Key = "" }),
		with(value(), func(r *api.Rec) { r.Key = "a b" }),
		with(value(), func(r *api.Rec) { r.Key = "\x7f" }),
		with(value(), func(r *api.Rec) { r.Key = strings.Repeat("k", 251) }),
		with(value(), func(r *api.Rec) { r.Stamp.Phys = lastTime + 1 }),
		with(value(), func(r *api.Rec) { r.Stamp.Phys = 1 << 62 }),
		with(value(), func(r *api.Rec) { r.Stamp.Phys = math.MaxUint64 }),
		with(value(), func(r *api.Rec) { r.Stamp.Node = 64 }),
		with(value(), func(r *api.Rec) { r.Kind = 0 }),
		with(value(), func(r *api.Rec) { r.Kind = 4 }),
		with(value(), func(r *api.Rec) { r.Expiry = lastTime + 1 }),
		with(value(), func(r *api.Rec) { r.Expiry = 1 << 62 }),
		with(value(), func(r *api.Rec) { r.Body = strings.Repeat("b", 1025) }),
		with(marker(), func(r *api.Rec) { r.Flags = 1 }),
		with(marker(), func(r *api.Rec) { r.Expiry = 1 }),
		with(marker(), func(r *api.Rec) { r.Body = "x" }),
		with(tomb(), func(r *api.Rec) { r.Flags = 1 }),
		with(tomb(), func(r *api.Rec) { r.Expiry = 1 }),
		with(tomb(), func(r *api.Rec) { r.Body = "x" }),
	} {
		if s, e := Put(r); s != "" || e != api.ErrArg {
			t.Errorf("%d: %q, %d", i, s, e)
		}
	}
}

// P6.1: many records, right and wrong ones, against the words.
func TestPutAsSaid(t *testing.T) {
	d := newDice(8)
	for range 20000 {
		r := d.any()
		s, e := Put(r)
		if slowMay(r) {
			if s != laid(r) || e != api.OK {
				t.Fatalf("%+v: %q, %d", r, s, e)
			}
		} else if s != "" || e != api.ErrArg {
			t.Fatalf("%+v: %q, %d", r, s, e)
		}
	}
}

// sameGet holds Get against the reckoning, and tells what it answered.
func sameGet(t *testing.T, s string, at int) (api.Rec, int, api.Errno) {
	t.Helper()
	r, next, e := Get(s, at)
	r2, next2, e2 := slowGet(s, at)
	if r != r2 || next != next2 || e != e2 {
		t.Fatalf("%q at %d: %+v, %d, %d, not %+v, %d, %d", s, at, r, next, e, r2, next2, e2)
	}
	return r, next, e
}

// faulty checks that bytes, wherever they stand, have this error, and nothing beside it.
func faulty(t *testing.T, name, s string, want api.Errno) {
	t.Helper()
	for _, ahead := range []string{"", "\x01", "\x01a\x01\x02\x03\x01", "\xff\xff\xff"} {
		if r, next, e := Get(ahead+s, len(ahead)); e != want || r != (api.Rec{}) || next != 0 {
			t.Errorf("%s, %q behind %q: %+v, %d, %d, not %d", name, s, ahead, r, next, e, want)
		}
	}
}

// P6.1: at places below 0 and behind the end there is nothing to be asked for; at the end nothing is left.
func TestGetPlaces(t *testing.T) {
	s := laid(value())
	for _, at := range []int{math.MinInt, math.MinInt + 1, -len(s), -2, -1, len(s) + 1, len(s) + 2, math.MaxInt - 1, math.MaxInt} {
		if r, next, e := Get(s, at); r != (api.Rec{}) || next != 0 || e != api.ErrArg {
			t.Errorf("at %d: %+v, %d, %d", at, r, next, e)
		}
	}
	for _, s := range []string{"", s} {
		if r, next, e := Get(s, len(s)); r != (api.Rec{}) || next != 0 || e != api.ErrShort {
			t.Errorf("at the end: %+v, %d, %d", r, next, e)
		}
	}
	for _, at := range []int{-1, 1, math.MinInt, math.MaxInt} {
		if r, next, e := Get("", at); r != (api.Rec{}) || next != 0 || e != api.ErrArg {
			t.Errorf("of nothing at %d: %+v, %d, %d", at, r, next, e)
		}
	}
}

// P6.1: what is cut off at any place is too short, and nothing else.
func TestGetBeginnings(t *testing.T) {
	d := newDice(9)
	l := []api.Rec{marker(), tomb(), value(), {Key: strings.Repeat("k", 250), Stamp: stamp(lastTime, lastLogical, 63), Kind: api.Value, Flags: lastLogical, Expiry: lastTime, Body: strings.Repeat("b", 1024)}}
	for range 30 {
		l = append(l, d.rec())
	}
	for _, r := range l {
		s := laid(r)
		for i := range len(s) {
			if q, next, e := Get(s[:i], 0); q != (api.Rec{}) || next != 0 || e != api.ErrShort {
				t.Fatalf("%+v, %d of %d bytes: %+v, %d, %d", r, i, len(s), q, next, e)
			}
			if i%7 == 0 {
				if q, next, e := Get(s+s[:i], len(s)); q != (api.Rec{}) || next != 0 || e != api.ErrShort {
					t.Fatalf("%+v, %d of %d bytes behind another: %+v, %d, %d", r, i, len(s), q, next, e)
				}
			}
		}
		if q, next, e := Get(s, 0); q != r || next != len(s) || e != api.OK {
			t.Fatalf("%+v: %+v, %d, %d", r, q, next, e)
		}
	}
}

// P6.1: each number that its field doesn't take, and the greatest that it does.
func TestGetNumbersTooGreat(t *testing.T) {
	const (
		over8  = "\x41\x00"                         // 2^8
		over32 = "\xc0\x00\x00\x01\x00\x00\x00\x00" // 2^32
		all32  = "\xc0\x00\x00\x00\xff\xff\xff\xff" // 2^32 - 1
		over48 = "\xc0\x01\x00\x00\x00\x00\x00\x00" // 2^48
		all48  = "\xc0\x00\xff\xff\xff\xff\xff\xff" // 2^48 - 1
		all62  = "\xff\xff\xff\xff\xff\xff\xff\xff" // 2^62 - 1
	)
	for _, x := range []struct{ name, s string }{
		{"Phys 2^48", "\x01a" + over48 + "\x02\x03\x01"},
		{"Phys 2^62 - 1", "\x01a" + all62 + "\x02\x03\x01"},
		{"Logical 2^32", "\x01a\x01" + over32 + "\x03\x01"},
		{"Logical 2^32 and 1", "\x01a\x01\xc0\x00\x00\x01\x00\x00\x00\x01\x03\x01"},
		{"Logical 2^62 - 1", "\x01a\x01" + all62 + "\x03\x01"},
		{"Node 64", "\x01a\x01\x02\x40\x40\x01"},
		{"Node 255", "\x01a\x01\x02\x40\xff\x01"},
		{"Node 256", "\x01a\x01\x02" + over8 + "\x01"},
		{"Node 259", "\x01a\x01\x02\x41\x03\x01"},
		{"Node 2^62 - 1", "\x01a\x01\x02" + all62 + "\x01"},
		{"Kind 0", "\x01a\x01\x02\x03\x00"},
		{"Kind 4", "\x01a\x01\x02\x03\x04"},
		{"Kind 255", "\x01a\x01\x02\x03\x40\xff"},
		{"Kind 256", "\x01a\x01\x02\x03" + over8},
		{"Kind 257", "\x01a\x01\x02\x03\x41\x01"},
		{"Kind 258", "\x01a\x01\x02\x03\x41\x02"},
		{"Kind 259", "\x01a\x01\x02\x03\x41\x03\x05\x07\x02xy"},
		{"Kind 2^32 and 1", "\x01a\x01\x02\x03\xc0\x00\x00\x01\x00\x00\x00\x01"},
		{"Flags 2^32", "\x01a\x01\x02\x03\x03" + over32 + "\x07\x02xy"},
		{"Flags 2^32 and 5", "\x01a\x01\x02\x03\x03\xc0\x00\x00\x01\x00\x00\x00\x05\x07\x02xy"},
		{"Flags 2^62 - 1", "\x01a\x01\x02\x03\x03" + all62 + "\x07\x02xy"},
		{"Expiry 2^48", "\x01a\x01\x02\x03\x03\x05" + over48 + "\x02xy"},
		{"Expiry 2^62 - 1", "\x01a\x01\x02\x03\x03\x05" + all62 + "\x02xy"},
	} {
		faulty(t, x.name, x.s, api.ErrForm)
	}
	want := api.Rec{Key: "a", Stamp: stamp(lastTime, lastLogical, 63), Kind: api.Value, Flags: lastLogical, Expiry: lastTime, Body: "xy"}
	if r, _, e := Get("\x01a"+all48+all32+"\x3f\x03"+all32+all48+"\x02xy", 0); r != want || e != api.OK {
		t.Errorf("the greatest: %+v, %d", r, e)
	}
}

// P6.1: Get's and GetText's errors at each field.
func TestGetFieldErrors(t *testing.T) {
	for _, x := range []struct {
		name, s string
		want    api.Errno
	}{
		{"no bytes", "", api.ErrShort},
		{"Key's length cut", "\x40", api.ErrShort},
		{"Key's length in two bytes", "\x40\x01a\x01\x02\x03\x01", api.ErrForm},
		{"Key cut", "\x02a", api.ErrShort},
		{"Key of 250 bytes cut", "\x40\xfa" + strings.Repeat("k", 249), api.ErrShort},
		{"Key of 251 bytes", "\x40\xfb" + strings.Repeat("k", 251) + "\x01\x02\x03\x01", api.ErrLong},
		{"Key of 251 bytes, cut", "\x40\xfb", api.ErrLong},
		{"Key of 2^62 - 1 bytes", "\xff\xff\xff\xff\xff\xff\xff\xff", api.ErrLong},
		{"no Phys", "\x01a", api.ErrShort},
		{"Phys cut", "\x01a\x80\x01\x02", api.ErrShort},
		{"Phys in two bytes", "\x01a\x40\x01\x02\x03\x01", api.ErrForm},
		{"no Logical", "\x01a\x01", api.ErrShort},
		{"Logical cut", "\x01a\x01\x40", api.ErrShort},
		{"Logical in four bytes", "\x01a\x01\x80\x00\x00\x02\x03\x01", api.ErrForm},
		{"no Node", "\x01a\x01\x02", api.ErrShort},
		{"Node cut", "\x01a\x01\x02\x40", api.ErrShort},
		{"Node in two bytes", "\x01a\x01\x02\x40\x03\x01", api.ErrForm},
		{"no Kind", "\x01a\x01\x02\x03", api.ErrShort},
		{"Kind cut", "\x01a\x01\x02\x03\xc0\x00\x00\x00\x00\x00\x00", api.ErrShort},
		{"Kind in eight bytes", "\x01a\x01\x02\x03\xc0\x00\x00\x00\x00\x00\x00\x01", api.ErrForm},
		{"no Flags", "\x01a\x01\x02\x03\x03", api.ErrShort},
		{"Flags cut", "\x01a\x01\x02\x03\x03\x40", api.ErrShort},
		{"Flags in two bytes", "\x01a\x01\x02\x03\x03\x40\x05\x07\x02xy", api.ErrForm},
		{"no Expiry", "\x01a\x01\x02\x03\x03\x05", api.ErrShort},
		{"Expiry cut", "\x01a\x01\x02\x03\x03\x05\x80\x00\x00", api.ErrShort},
		{"Expiry in two bytes", "\x01a\x01\x02\x03\x03\x05\x40\x07\x02xy", api.ErrForm},
		{"no Body", "\x01a\x01\x02\x03\x03\x05\x07", api.ErrShort},
		{"Body's length cut", "\x01a\x01\x02\x03\x03\x05\x07\x44", api.ErrShort},
		{"Body's length in two bytes", "\x01a\x01\x02\x03\x03\x05\x07\x40\x02xy", api.ErrForm},
		{"Body cut", "\x01a\x01\x02\x03\x03\x05\x07\x02x", api.ErrShort},
		{"Body of 1024 bytes cut", "\x01a\x01\x02\x03\x03\x05\x07\x44\x00" + strings.Repeat("b", 1023), api.ErrShort},
		{"Body of 1025 bytes", "\x01a\x01\x02\x03\x03\x05\x07\x44\x01" + strings.Repeat("b", 1025), api.ErrLong},
		{"Body of 1025 bytes, cut", "\x01a\x01\x02\x03\x03\x05\x07\x44\x01", api.ErrLong},
	} {
		faulty(t, x.name, x.s, x.want)
	}
}

// P6.1, R6: of two errors the one further ahead is told; that a record may not be is told only when all its bytes were read.
func TestGetFirstErrorFirst(t *testing.T) {
	const over32 = "\xc0\x00\x00\x01\x00\x00\x00\x00"
	for _, x := range []struct {
		name, s string
		want    api.Errno
	}{
		{"Logical too great, nothing behind", "\x01a\x01" + over32, api.ErrForm},
		{"Logical too great, Node cut", "\x01a\x01" + over32 + "\x40", api.ErrForm},
		{"Logical too great, Body too long", "\x01a\x01" + over32 + "\x03\x03\x05\x07\x44\x01", api.ErrForm},
		{"Node too great, nothing behind", "\x01a\x01\x02\x41\x00", api.ErrForm},
		{"Node too great, Body too long", "\x01a\x01\x02\x41\x00\x03\x05\x07\x44\x01", api.ErrForm},
		{"Kind too great, nothing behind", "\x01a\x01\x02\x03\x41\x03", api.ErrForm},
		{"Kind too great, Body too long", "\x01a\x01\x02\x03\x41\x03\x05\x07\x44\x01", api.ErrForm},
		{"Flags too great, nothing behind", "\x01a\x01\x02\x03\x03" + over32, api.ErrForm},
		{"Flags too great, Body too long", "\x01a\x01\x02\x03\x03" + over32 + "\x07\x44\x01", api.ErrForm},
		{"Key too long, Logical too great", "\x40\xfb" + strings.Repeat("k", 251) + "\x01" + over32, api.ErrLong},
		{"Key too long, Phys cut", "\x40\xfb" + strings.Repeat("k", 251) + "\x40", api.ErrLong},
		{"Phys in two bytes, Body too long", "\x01a\x40\x01\x02\x03\x03\x05\x07\x44\x01", api.ErrForm},
		{"Phys above MaxTime, nothing behind", "\x01a\xc0\x01\x00\x00\x00\x00\x00\x00", api.ErrShort},
		{"Phys above MaxTime, Body too long", "\x01a\xc0\x01\x00\x00\x00\x00\x00\x00\x02\x03\x03\x05\x07\x44\x01", api.ErrLong},
		{"Node 64, nothing behind", "\x01a\x01\x02\x40\x40", api.ErrShort},
		{"Node 255, nothing behind", "\x01a\x01\x02\x40\xff", api.ErrShort},
		{"Node 64, Body too long", "\x01a\x01\x02\x40\x40\x03\x05\x07\x44\x01", api.ErrLong},
		{"Expiry above MaxTime, nothing behind", "\x01a\x01\x02\x03\x03\x05\xc0\x01\x00\x00\x00\x00\x00\x00", api.ErrShort},
		{"Expiry above MaxTime, Body too long", "\x01a\x01\x02\x03\x03\x05\xc0\x01\x00\x00\x00\x00\x00\x00\x44\x01", api.ErrLong},
		{"Key empty, nothing behind", "\x00", api.ErrShort},
		{"Key empty, Kind cut", "\x00\x01\x02\x03\x40", api.ErrShort},
		{"Key empty, Body too long", "\x00\x01\x02\x03\x03\x05\x07\x44\x01", api.ErrLong},
		{"Key with a blank, nothing behind", "\x01 ", api.ErrShort},
		{"Key with a blank, Body cut", "\x01 \x01\x02\x03\x03\x05\x07\x02x", api.ErrShort},
		{"Kind 4, nothing behind", "\x01a\x01\x02\x03\x04", api.ErrForm},
		{"Kind 4, a Body too long behind", "\x01a\x01\x02\x03\x04\x05\x07\x44\x01", api.ErrForm},
	} {
		faulty(t, x.name, x.s, x.want)
	}
	// A wrong place comes ahead of all.
	if r, next, e := Get("\x40\xfb", -1); r != (api.Rec{}) || next != 0 || e != api.ErrArg {
		t.Errorf("below 0: %+v, %d, %d", r, next, e)
	}
	if r, next, e := Get("\x40\xfb", 3); r != (api.Rec{}) || next != 0 || e != api.ErrArg {
		t.Errorf("behind the end: %+v, %d, %d", r, next, e)
	}
}

// P6.1: bytes that say a record that may not be; each byte that no key has, at each end of one.
func TestGetMayNotBe(t *testing.T) {
	for c := range 256 {
		for _, key := range []string{string([]byte{byte(c)}), string([]byte{byte(c), 'k'}), string([]byte{'k', byte(c)})} {
			r := with(value(), func(r *api.Rec) { r.Key = key })
			if slowKeyMay(key) {
				if q, next, e := Get(laid(r), 0); q != r || next != len(laid(r)) || e != api.OK {
					t.Errorf("%q: %+v, %d, %d", key, q, next, e)
				}
				continue
			}
			faulty(t, "key", laid(r), api.ErrForm)
		}
	}
	for node := range 256 {
		r := with(tomb(), func(r *api.Rec) { r.Stamp.Node = uint8(node) })
		if _, _, e := sameGet(t, laid(r), 0); (e == api.OK) != (node < 64) {
			t.Errorf("node %d: %d", node, e)
		}
	}
	for kind := range 256 {
		r := with(value(), func(r *api.Rec) { r.Kind = uint8(kind) })
		if _, _, e := sameGet(t, laid(r), 0); (e == api.OK) != (kind > 0 && kind < 4) {
			t.Errorf("kind %d: %d", kind, e)
		}
	}
	faulty(t, "no key", "\x00\x01\x02\x03\x01", api.ErrForm)
}

// P6.1: what stands behind a Marker and a Tomb isn't theirs, nor is what stands behind a Value.
func TestGetLeavesTheRest(t *testing.T) {
	for _, r := range []api.Rec{marker(), tomb(), value(), {Key: "a", Kind: api.Value}} {
		s := laid(r)
		for _, ahead := range []string{"", "\x00", "xyz", strings.Repeat("\xff", 300)} {
			for _, behind := range []string{"", "\x05", "\x05\x07\x02xy", "\xff", strings.Repeat("\x40", 2000)} {
				if q, next, e := Get(ahead+s+behind, len(ahead)); q != r || next != len(ahead)+len(s) || e != api.OK {
					t.Errorf("%+v: %+v, %d, %d", r, q, next, e)
				}
			}
		}
	}
}

// P6.4: what is put is got, wherever it stands.
func TestThereAndBack(t *testing.T) {
	d := newDice(10)
	for range 10000 {
		r := d.rec()
		s, e := Put(r)
		if e != api.OK {
			t.Fatalf("%+v: %d", r, e)
		}
		ahead, behind := d.body(), d.body()
		q, next, e := Get(ahead+s+behind, len(ahead))
		if q != r || next != len(ahead)+len(s) || e != api.OK {
			t.Fatalf("%+v: %+v, %d, %d", r, q, next, e)
		}
	}
}

// P6.4: many records, one behind the other, are got one behind the other.
func TestInARow(t *testing.T) {
	d := newDice(11)
	var l []api.Rec
	var b strings.Builder
	for range 500 {
		r := d.rec()
		s, _ := Put(r)
		b.WriteString(s)
		l = append(l, r)
	}
	at := 0
	for i, r := range l {
		q, next, e := Get(b.String(), at)
		if q != r || next <= at || e != api.OK {
			t.Fatalf("%d: %+v, %d, %d, not %+v", i, q, next, e, r)
		}
		at = next
	}
	if at != b.Len() {
		t.Errorf("%d of %d bytes", at, b.Len())
	}
}

// touched is bytes with a few of them changed, left out or put in.
func touched(d dice, s string) string {
	b := []byte(s)
	for range 1 + d.IntN(2) {
		// Most of what can go wrong stands near the front.
		at := d.IntN(min(len(b), one(d, 12, 12, 300, 2000)) + 1)
		c := one(d, byte(0), 1, 2, 3, 4, 32, 64, 65, 68, 127, 128, 192, 255, byte(d.IntN(256)))
		switch {
		case d.IntN(3) == 0:
			b = slices.Insert(b, at, c)
		case at == len(b):
		case d.IntN(2) == 0:
			b = slices.Delete(b, at, at+1)
		default:
			b[at] = c
		}
	}
	return string(b)
}

// P6.1, P6.4: whatever bytes come, it is as reckoned, and what is got is just what is put.
func TestAnyBytes(t *testing.T) {
	d := newDice(12)
	seen := map[api.Errno]int{}
	for i := range 60000 {
		r := d.any()
		if i%2 == 0 {
			r = d.rec()
		}
		s := laid(r)
		if i%3 > 0 {
			s = touched(d, s)
		}
		at := 0
		if i%5 == 0 {
			at = d.IntN(len(s) + 3)
		}
		q, next, e := sameGet(t, s, at)
		seen[e]++
		if e != api.OK {
			continue
		}
		if p, e := Put(q); p != s[at:next] || e != api.OK {
			t.Fatalf("%q at %d: %q, %d", s, at, p, e)
		}
	}
	for _, e := range []api.Errno{api.OK, api.ErrArg, api.ErrShort, api.ErrForm, api.ErrLong} {
		if seen[e] < 100 {
			t.Errorf("error %d came up %d times: the test tells little", e, seen[e])
		}
	}
}

// P6.1, P6.4: every row of up to seven bytes out of few.
func TestEveryShortRow(t *testing.T) {
	letters := []byte{0, 1, 2, 3, 33, 64}
	row := make([]byte, 0, 7)
	got := 0
	var walk func()
	walk = func() {
		s := string(row)
		r, next, e := sameGet(t, s, 0)
		if e == api.OK {
			got++
			if p, e := Put(r); p != s[:next] || e != api.OK {
				t.Fatalf("%q: %q, %d", s, p, e)
			}
		}
		if len(row) == cap(row) {
			return
		}
		for _, c := range letters {
			row = append(row, c)
			walk()
			row = row[:len(row)-1]
		}
	}
	walk()
	if got < 100 {
		t.Errorf("%d records: the test tells little", got)
	}
}

// P6.1: digests, reckoned elsewhere.
func TestDigestValues(t *testing.T) {
	for i, x := range []struct {
		r    api.Rec
		want uint64
	}{
		{marker(), 0x82C845D93EA55048},
		{tomb(), 0x034FA4007517C293},
		{value(), 0xB4F9BD24B6C08154},
		{with(marker(), func(r *api.Rec) { r.Key = "b" }), 0x3DB9A18D03A195A1},
		{with(marker(), func(r *api.Rec) { r.Stamp = stamp(2, 1, 3) }), 0xD78AEDACE1AA4F75},
		{with(marker(), func(r *api.Rec) { r.Stamp = stamp(1, 3, 2) }), 0x282DE1F7B912E82E},
		{with(value(), func(r *api.Rec) { r.Stamp = stamp(1, 2, 1) }), 0x90564CA606FCA88D},
		{api.Rec{}, 0xC50DD9468318F0A0},
		{api.Rec{Key: "\x80\xff!", Stamp: stamp(lastTime, lastLogical, 63), Kind: api.Value}, 0xA1BD4242A1EFA621},
		{api.Rec{Key: strings.Repeat("k", 251), Stamp: stamp(math.MaxUint64, lastLogical, 255), Kind: 255}, 0x0034207C1271E425},
	} {
		if got := Digest(x.r); got != x.want {
			t.Errorf("%d: %#x", i, got)
		}
	}
}

// P6.1: many records against the reckoning; Flags, Expiry and Body play no part, each other thing does.
func TestDigestAsSaid(t *testing.T) {
	d := newDice(13)
	for range 2000 {
		r := d.any()
		h := Digest(r)
		if want := slowDigest(r); h != want {
			t.Fatalf("%+v: %#x, not %#x", r, h, want)
		}
		other := r
		other.Flags, other.Expiry, other.Body = d.word(), d.time(), d.body()
		if Digest(other) != h {
			t.Fatalf("%+v: flags, expiry, body", r)
		}
		for i, change := range []func(r *api.Rec){
			func(r *api.Rec) { r.Key += "k" },
			func(r *api.Rec) { r.Stamp.Phys ^= 1 << d.IntN(64) },
			func(r *api.Rec) { r.Stamp.Logical ^= 1 << d.IntN(32) },
			func(r *api.Rec) { r.Stamp.Node ^= 1 << d.IntN(8) },
			func(r *api.Rec) { r.Kind ^= 1 << d.IntN(8) },
		} {
			if Digest(with(r, change)) == h {
				t.Fatalf("%+v: part %d plays no part", r, i)
			}
		}
	}
}

// R3: what is answered is new memory, so that it keeps nothing that was handed in.
func TestNewMemory(t *testing.T) {
	shares := func(a, b string) bool {
		from, at := uintptr(unsafe.Pointer(unsafe.StringData(a))), uintptr(unsafe.Pointer(unsafe.StringData(b)))
		return at >= from && at < from+uintptr(len(a))
	}
	s := laid(value())
	r, _, e := Get(s, 0)
	if e != api.OK || shares(s, r.Key) || shares(s, r.Body) {
		t.Error("Get's texts are the bytes' own")
	}
	a := api.Rec{Key: strings.Clone("key"), Kind: api.Value, Body: strings.Clone("body")}
	b := api.Rec{Key: strings.Clone("key"), Kind: api.Value, Body: strings.Clone("body, later")}
	for _, j := range []api.Rec{Join(a, b), Join(b, a)} {
		if j != b || shares(a.Key, j.Key) || shares(b.Key, j.Key) || shares(b.Body, j.Body) {
			t.Errorf("Join's texts are a record's own: %+v", j)
		}
	}
}
