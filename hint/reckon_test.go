package hint

import (
	"fmt"
	"maps"
	"math"
	"math/bits"
	"math/rand/v2"
	"slices"
	"strings"
	"testing"

	"tattler/api"
)

// at, marker and tomb are short for tables.
func at(phys uint64, logical uint32, node uint8) api.Stamp {
	return api.Stamp{Phys: phys, Logical: logical, Node: node}
}

func marker(key string, s api.Stamp) api.Rec { return api.Rec{Key: key, Stamp: s, Kind: 1} }

func tomb(key string, s api.Stamp) api.Rec { return api.Rec{Key: key, Stamp: s, Kind: 2} }

// slowMix and slowText follow chapter 1's words, apart from package mix.
func slowMix(x uint64) uint64 {
	x ^= x / (1 << 30)
	_, x = bits.Mul64(x, 0xBF58476D1CE4E5B9)
	x ^= x / (1 << 27)
	_, x = bits.Mul64(x, 0x94D049BB133111EB)
	return x ^ x/(1<<31)
}

func slowText(s string) uint64 {
	h := uint64(0x9E3779B97F4A7C15)
	for _, b := range []byte(s) {
		h = slowMix(h ^ uint64(b))
	}
	return slowMix(h ^ uint64(len(s)))
}

// slowOwners follows chapter 16's words, apart from package ring: all nodes that there are, sorted by their weights, and cut to two.
func slowOwners(key string, up []uint8) []uint8 {
	nodes := slices.Clone(up)
	slices.Sort(nodes)
	nodes = slices.DeleteFunc(slices.Compact(nodes), func(n uint8) bool { return n > 63 })
	weights := map[uint8]uint64{}
	start := slowMix(slowText(key))
	for _, n := range nodes {
		weights[n] = slowMix(start ^ (uint64(n) + 1))
	}
	slices.SortStableFunc(nodes, func(a, b uint8) int {
		if weights[a] > weights[b] {
			return -1
		}
		return 1
	})
	return nodes[:min(2, len(nodes))]
}

// slowMay is whether a record may be a hint: chapter 6's words of a Marker and a Tomb.
func slowMay(r api.Rec) bool {
	for _, b := range []byte(r.Key) {
		if b <= 32 || b == 127 {
			return false
		}
	}
	bare := r == api.Rec{Key: r.Key, Stamp: r.Stamp, Kind: r.Kind}
	return bare && len(r.Key) > 0 && len(r.Key) <= 250 && r.Stamp.Phys < 1<<48 && r.Stamp.Node < 64 && (r.Kind == 1 || r.Kind == 2)
}

// rank stands in order as stamps do, and by kind behind that.
func rank(s api.Stamp, kind uint8) []uint64 {
	return []uint64{s.Phys, uint64(s.Logical), uint64(s.Node), uint64(kind)}
}

// behind is whether a stands behind b.
func behind(a, b api.Rec) bool {
	return slices.Compare(rank(a.Stamp, a.Kind), rank(b.Stamp, b.Kind)) > 0
}

// known is what the model has of a key.
type known struct {
	rec  api.Rec
	have [64]bool
}

// model is hints that are reckoned apart from the program: a map of keys, each with a row of bools.
type model struct {
	n  int
	of map[string]known
}

func newModel(n int) *model { return &model{n, map[string]known{}} }

func (m *model) keys() []string { return slices.Sorted(maps.Keys(m.of)) }

func (m *model) add(r api.Rec) api.Errno {
	if !slowMay(r) {
		return 1
	}
	old, some := m.of[r.Key]
	switch {
	case some && !behind(r, old.rec):
		return 0
	case !some && len(m.of) == m.n:
		return 6
	}
	m.of[r.Key] = known{rec: r}
	return 0
}

func (m *model) ack(key string, s api.Stamp, node uint8) bool {
	k, some := m.of[key]
	if !some || node > 63 || k.have[node] {
		return false
	}
	if slices.Compare(rank(k.rec.Stamp, 0), rank(s, 0)) > 0 {
		return false
	}
	k.have[node] = true
	m.of[key] = k
	return true
}

func (m *model) missing(up []uint8) []api.Send {
	var l []api.Send
	for _, key := range m.keys() {
		k := m.of[key]
		for _, node := range slowOwners(key, up) {
			if !k.have[node] {
				l = append(l, api.Send{To: node, Rec: k.rec})
			}
		}
	}
	return l
}

func (m *model) settle(up []uint8) int {
	gone := 0
	for _, key := range m.keys() {
		owners, have := slowOwners(key, up), 0
		for _, node := range owners {
			if m.of[key].have[node] {
				have++
			}
		}
		if have > 0 && have == len(owners) {
			delete(m.of, key)
			gone++
		}
	}
	return gone
}

func (m *model) all() []api.Hint {
	var l []api.Hint
	for _, key := range m.keys() {
		k := m.of[key]
		acked := uint64(0)
		for i := range 64 {
			acked *= 2
			if k.have[63-i] {
				acked++
			}
		}
		l = append(l, api.Hint{Rec: k.rec, Acked: acked})
	}
	return l
}

// both is hints beside their model, and beside what All answered behind the last call.
type both struct {
	t     *testing.T
	hints *Hints
	model *model
	had   []api.Hint
	calls string // all calls so far, to be told where something is wrong
}

func newHints(t *testing.T, n int) *Hints {
	t.Helper()
	h, e := New(n)
	if e != api.OK || h == nil {
		t.Fatalf("New(%d): %v, %d", n, h, e)
	}
	return h
}

func newBoth(t *testing.T, n int) *both {
	t.Helper()
	b := &both{t: t, hints: newHints(t, n), model: newModel(n), calls: fmt.Sprintf("New(%d)", n)}
	b.check()
	if len(b.had) != 0 {
		t.Fatalf("%s: %v", b.calls, b.had)
	}
	return b
}

func (b *both) add(r api.Rec) api.Errno {
	b.t.Helper()
	b.calls += fmt.Sprintf("; Add %q %v %d", r.Key, r.Stamp, r.Kind)
	had := b.had
	got, want := b.hints.Add(r), b.model.add(r)
	if got != want {
		b.t.Fatalf("%s: %d, not %d", b.calls, got, want)
	}
	b.check()
	b.keptByAdd(r, got, had)
	return got
}

func (b *both) ack(key string, s api.Stamp, node uint8) bool {
	b.t.Helper()
	b.calls += fmt.Sprintf("; Ack %q %v %d", key, s, node)
	had := b.had
	got, want := b.hints.Ack(key, s, node), b.model.ack(key, s, node)
	if got != want {
		b.t.Fatalf("%s: %v, not %v", b.calls, got, want)
	}
	b.check()
	b.keptByAck(key, node, got, had)
	return got
}

func (b *both) missing(up ...uint8) []api.Send {
	b.t.Helper()
	b.calls += fmt.Sprint("; Missing ", up)
	given, had := slices.Clone(up), b.had
	got, want := b.hints.Missing(up), b.model.missing(up)
	if !slices.Equal(got, want) || !slices.Equal(up, given) {
		b.t.Fatalf("%s: %v, not %v; and of %d, %d", b.calls, got, want, given, up)
	}
	b.check()
	if !slices.Equal(b.had, had) {
		b.t.Fatalf("%s: %v has become %v", b.calls, had, b.had)
	}
	return got
}

func (b *both) settle(up ...uint8) int {
	b.t.Helper()
	b.calls += fmt.Sprint("; Settle ", up)
	given, had := slices.Clone(up), b.had
	got, want := b.hints.Settle(up), b.model.settle(up)
	if got != want || !slices.Equal(up, given) {
		b.t.Fatalf("%s: %d, not %d; and of %d, %d", b.calls, got, want, given, up)
	}
	b.check()
	b.keptBySettle(up, got, had)
	return got
}

// check is All and Len, behind each call, and twice, as they change nothing; and P20.3.
func (b *both) check() {
	b.t.Helper()
	want := b.model.all()
	for range 2 {
		b.had = b.hints.All()
		if !slices.Equal(b.had, want) {
			b.t.Fatalf("%s: %v, not %v", b.calls, b.had, want)
		}
		if n := b.hints.Len(); n != len(b.had) || n > b.model.n {
			b.t.Fatalf("%s: Len is %d of %v", b.calls, n, b.had)
		}
	}
}

// The three below are P20.2, by what the hints themselves answered ahead of the call and behind it, not by the model.

// keptByAdd fails unless all are as they were but the one of the key that was added, and that one is only another one if it is a later one.
func (b *both) keptByAdd(r api.Rec, e api.Errno, had []api.Hint) {
	b.t.Helper()
	want := slices.Clone(had)
	i := slices.IndexFunc(want, func(x api.Hint) bool { return x.Rec.Key == r.Key })
	switch {
	case e == api.OK && i < 0:
		want = append(want, api.Hint{Rec: r})
	case e == api.OK && behind(r, want[i].Rec):
		want[i] = api.Hint{Rec: r}
	}
	slices.SortFunc(want, func(a, b api.Hint) int { return strings.Compare(a.Rec.Key, b.Rec.Key) })
	if !slices.Equal(b.had, want) {
		b.t.Fatalf("%s: %v has become %v", b.calls, had, b.had)
	}
}

// keptByAck fails unless all are as they were but for the one node that was told to have acked.
func (b *both) keptByAck(key string, node uint8, acked bool, had []api.Hint) {
	b.t.Helper()
	want := slices.Clone(had)
	for i := range want {
		if acked && want[i].Rec.Key == key {
			want[i].Acked += uint64(math.Pow(2, float64(node)))
		}
	}
	if !slices.Equal(b.had, want) {
		b.t.Fatalf("%s: %v has become %v", b.calls, had, b.had)
	}
}

// keptBySettle fails unless just those are gone whose owners all had acked them.
func (b *both) keptBySettle(up []uint8, gone int, had []api.Hint) {
	b.t.Helper()
	var want []api.Hint
	for _, x := range had {
		owners := slowOwners(x.Rec.Key, up)
		lacks := slices.ContainsFunc(owners, func(n uint8) bool { return x.Acked>>n%2 == 0 })
		if lacks || len(owners) == 0 {
			want = append(want, x)
		}
	}
	if !slices.Equal(b.had, want) || gone != len(had)-len(want) {
		b.t.Fatalf("%s: %d, and %v has become %v", b.calls, gone, had, b.had)
	}
}

// dice draws what tests are made of: always the same, so that a test fails each time or never.
type dice struct{ *rand.Rand }

func newDice(seed uint64) dice { return dice{rand.New(rand.NewPCG(seed, 20))} }

func one[T any](d dice, l ...T) T { return l[d.IntN(len(l))] }

// drawing is of how many keys and nodes it is drawn, and with how many stamps.
type drawing struct {
	dice
	keys, nodes, stamps int
}

// keyOf is one of many keys, short ones and long ones, in whose order their numbers play no part.
func keyOf(i int) string {
	key := fmt.Sprint(i * 7919 % 1000)
	if i%9 == 8 {
		key += strings.Repeat("k", 250-len(key))
	}
	return key
}

func (d drawing) key() string { return keyOf(d.IntN(d.keys)) }

func (d drawing) node() uint8 {
	if d.IntN(15) == 0 {
		return one(d.dice, 0, 1, 62, 63, 64, 65, 127, 128, 255, uint8(d.IntN(256)))
	}
	return uint8(d.IntN(d.nodes))
}

func (d drawing) stamp() api.Stamp {
	s := at(uint64(d.IntN(d.stamps)), uint32(d.IntN(2)), uint8(d.IntN(2)))
	if d.IntN(30) == 0 {
		s = one(d.dice, at(0, 0, 0), at(api.MaxTime, 0, 0), at(0, math.MaxUint32, 0), at(1, 1, 63), at(api.MaxTime, math.MaxUint32, 63))
	}
	return s
}

// rec may mostly be; now and then one thing of it may not.
func (d drawing) rec() api.Rec {
	r := api.Rec{Key: d.key(), Stamp: d.stamp(), Kind: uint8(1 + d.IntN(2))}
	if d.IntN(12) > 0 {
		return r
	}
	switch d.IntN(8) {
	case 0:
		r.Key = one(d.dice, "", "a b", "a\n", "a\x7f", strings.Repeat("k", 251))
	case 1:
		r.Kind = one[uint8](d.dice, 0, 3, 3, 3, 4, 255)
	case 2:
		r.Flags = 1 + d.Uint32N(9)
	case 3:
		r.Expiry = 1 + d.Uint64N(9)
	case 4:
		r.Body = "x"
	case 5:
		r.Stamp.Phys = one[uint64](d.dice, 1<<48, 1<<48+1, math.MaxUint64)
	case 6:
		r.Stamp.Node = uint8(64 + d.IntN(192))
	case 7:
		r = api.Rec{Key: r.Key, Stamp: r.Stamp, Kind: 3, Flags: d.Uint32(), Expiry: 7, Body: "body"}
	}
	return r
}

func (d drawing) up() []uint8 {
	l := make([]uint8, d.IntN(one(d.dice, 1, 3, 5, d.nodes+2, 80)))
	for i := range l {
		l[i] = d.node()
	}
	return l
}

// acking is an Ack that mostly is of a hint that there is, by a node that mostly owns it.
func (d drawing) acking(b *both) {
	b.t.Helper()
	key, s, node := d.key(), d.stamp(), d.node()
	if len(b.had) > 0 && d.IntN(6) > 0 {
		x := one(d.dice, b.had...)
		key = x.Rec.Key
		if d.IntN(2) == 0 {
			s = x.Rec.Stamp
		}
		if l := slowOwners(key, d.up()); len(l) > 0 && d.IntN(3) > 0 {
			node = one(d.dice, l...)
		}
	}
	b.ack(key, s, node)
}

// tells is a row of Acks of what is missing, as it comes when messages go there and back.
func (d drawing) tells(b *both, up []uint8) {
	b.t.Helper()
	for _, x := range b.missing(up...) {
		if d.IntN(4) > 0 {
			b.ack(x.Rec.Key, x.Rec.Stamp, x.To)
		}
	}
}

func (d drawing) call(b *both, adds int) {
	b.t.Helper()
	if d.IntN(100) < adds {
		b.add(d.rec())
		return
	}
	switch d.IntN(12) {
	case 0, 1, 2, 3, 4, 5:
		d.acking(b)
	case 6, 7:
		b.missing(d.up()...)
	case 8, 9:
		b.settle(d.up()...)
	case 10:
		up := d.up()
		d.tells(b, up)
		b.settle(up...)
	case 11:
		d.tells(b, d.up())
	}
}

// calls grows or shrinks hints by turns.
func (d drawing) calls(b *both, calls int) {
	b.t.Helper()
	adds := 60
	for i := range calls {
		if i%30 == 0 {
			adds = one(d.dice, 5, 20, 50, 80, 95)
		}
		d.call(b, adds)
	}
}
