package ask

import (
	"fmt"
	"math"
	"math/rand/v2"
	"slices"
	"strings"
	"testing"

	"tattler/api"
)

// at, marker, tomb and value are short for tables; all are of one key.
func at(phys uint64, logical uint32, node uint8) api.Stamp {
	return api.Stamp{Phys: phys, Logical: logical, Node: node}
}

func marker(s api.Stamp) api.Rec { return api.Rec{Key: "k", Stamp: s, Kind: 1} }

func tomb(s api.Stamp) api.Rec { return api.Rec{Key: "k", Stamp: s, Kind: 2} }

func value(s api.Stamp, body string, flags uint32, exp uint64) api.Rec {
	return api.Rec{Key: "k", Stamp: s, Kind: 3, Flags: flags, Expiry: exp, Body: body}
}

// has, past and hasNot are a node's answers.
func has(r api.Rec) api.Reply { return api.Reply{Has: true, Rec: r} }

func past(r api.Rec) api.Reply { return api.Reply{Has: true, Past: true, Rec: r} }

func hasNot() api.Reply { return api.Reply{} }

// rank is a record's place in chapter 6's order, apart from package rec: the lesser row stands ahead. Behind a body's bytes, each one more than it is, stands a 0, so that a beginning is ahead of the whole.
func rank(r api.Rec) []uint64 {
	row := make([]uint64, 0, len(r.Body)+7)
	row = append(row, r.Stamp.Phys, uint64(r.Stamp.Logical), uint64(r.Stamp.Node), uint64(r.Kind))
	for _, b := range []byte(r.Body) {
		row = append(row, uint64(b)+1)
	}
	return append(row, 0, uint64(r.Flags), r.Expiry)
}

func ahead(a, b api.Rec) bool { return slices.Compare(rank(a), rank(b)) < 0 }

// model is a request that is reckoned apart from the program: the nodes as they were handed in, and all answers that count.
type model struct {
	nodes []uint8
	until uint64
	told  map[uint8]api.Reply
}

func newModel(nodes []uint8, until uint64) *model {
	m := &model{until: until, told: map[uint8]api.Reply{}}
	for i, node := range nodes {
		if slices.Index(nodes, node) == i {
			m.nodes = append(m.nodes, node)
		}
	}
	return m
}

func (m *model) take(node uint8, r api.Reply) bool {
	_, told := m.told[node]
	if told || !slices.Contains(m.nodes, node) {
		return false
	}
	m.told[node] = r
	return true
}

func (m *model) over(now uint64) bool { return m.until <= now || len(m.nodes) == len(m.told) }

// yes is who has a record, in the order of the nodes.
func (m *model) yes() []uint8 {
	return slices.DeleteFunc(slices.Clone(m.nodes), func(n uint8) bool { return !m.told[n].Has })
}

// best is the first one, in the order of the nodes, that stands ahead of no other one.
func (m *model) best() (api.Rec, bool, bool) {
	yes := m.yes()
	for _, node := range yes {
		r := m.told[node].Rec
		if slices.ContainsFunc(yes, func(n uint8) bool { return ahead(r, m.told[n].Rec) }) {
			continue
		}
		live := slices.ContainsFunc(yes, func(n uint8) bool { return m.told[n] == has(r) })
		return r, live && r.Kind == 3, true
	}
	return api.Rec{}, false, false
}

func (m *model) behind() []uint8 {
	var l []uint8
	best, _, some := m.best()
	for _, node := range m.nodes {
		r, told := m.told[node]
		if some && told && (!r.Has || ahead(r.Rec, best)) {
			l = append(l, node)
		}
	}
	return l
}

// answer is all that a request answers, and may be held against another one's.
type answer struct {
	yes         int
	best        api.Rec
	live, there bool
	behind      string
}

// tells is what a request answers just now.
func tells(a *Ask) answer {
	x := answer{yes: a.Yes(), behind: fmt.Sprint(a.Behind())}
	x.best, x.live, x.there = a.Best()
	return x
}

// reckoned is what it has to answer.
func (m *model) reckoned() answer {
	x := answer{yes: len(m.yes()), behind: fmt.Sprint(m.behind())}
	x.best, x.live, x.there = m.best()
	return x
}

// both is a request beside its model.
type both struct {
	t     *testing.T
	ask   *Ask
	model *model
	calls []string // all calls so far, to be told where something is wrong
}

func newBoth(t *testing.T, until uint64, nodes ...uint8) *both {
	t.Helper()
	was := slices.Clone(nodes)
	b := &both{t: t, ask: New(nodes, until), model: newModel(was, until)}
	b.calls = []string{fmt.Sprintf("New(%d, %d)", nodes, until)}
	if b.ask == nil || !slices.Equal(nodes, was) {
		t.Fatalf("%s: %v; of %d", b.calls, b.ask, was)
	}
	b.check()
	return b
}

func (b *both) take(node uint8, r api.Reply) bool {
	b.t.Helper()
	b.calls = append(b.calls, fmt.Sprintf("Take(%d, %v)", node, r))
	had := tells(b.ask)
	got, want := b.ask.Take(node, r), b.model.take(node, r)
	if got != want {
		b.t.Fatalf("%s: %v, not %v", b.calls, got, want)
	}
	b.check()
	if now := tells(b.ask); !got && now != had {
		b.t.Fatalf("%s: false, and %v has become %v", b.calls, had, now)
	}
	return got
}

// check is what is answered behind each call, and twice, as that changes nothing.
func (b *both) check() {
	b.t.Helper()
	until, want := b.model.until, b.model.reckoned()
	for range 2 {
		for _, now := range []uint64{0, 1, until - 1, until, until + 1, math.MaxUint64 - 1, math.MaxUint64} {
			if got := b.ask.Over(now); got != b.model.over(now) {
				b.t.Fatalf("%s: Over(%d) is %v", b.calls, now, got)
			}
		}
		if got := tells(b.ask); got != want {
			b.t.Fatalf("%s: %v, not %v", b.calls, got, want)
		}
	}
}

// expect lays what is answered against what was reckoned by hand.
func (b *both) expect(yes int, best api.Rec, live, there bool, behind ...uint8) {
	b.t.Helper()
	want := answer{yes, best, live, there, fmt.Sprint(behind)}
	if got := tells(b.ask); got != want {
		b.t.Fatalf("%s: %v, not %v", b.calls, got, want)
	}
}

// expectTake and expectOver likewise a call's bool.
func (b *both) expectTake(node uint8, r api.Reply, want bool) {
	b.t.Helper()
	if b.take(node, r) != want {
		b.t.Fatalf("%s: not %v", b.calls, want)
	}
}

func (b *both) expectOver(now uint64, want bool) {
	b.t.Helper()
	if b.ask.Over(now) != want {
		b.t.Fatalf("%s: Over(%d) is not %v", b.calls, now, want)
	}
}

// dice draws what tests are made of: always the same, so that a test fails each time or never.
type dice struct{ *rand.Rand }

func newDice(seed uint64) dice { return dice{rand.New(rand.NewPCG(seed, 21))} }

func one[T any](d dice, l ...T) T { return l[d.IntN(len(l))] }

// drawing is of how many nodes and how many stamps it is drawn.
type drawing struct {
	dice
	nodes, stamps int
}

func (d drawing) node() uint8 {
	if d.IntN(20) == 0 {
		return one(d.dice, 0, 1, 62, 63, 64, 65, 127, 128, 254, 255, uint8(d.IntN(256)))
	}
	return uint8(d.IntN(d.nodes))
}

// row is nodes to be asked, some of them several times.
func (d drawing) row() []uint8 {
	l := make([]uint8, d.IntN(d.nodes+d.nodes/2+2))
	for i := range l {
		l[i] = d.node()
	}
	return l
}

func (d drawing) until() uint64 {
	return one(d.dice, 0, 1, 2, uint64(d.IntN(1000)), 1<<63, math.MaxUint64-1, math.MaxUint64)
}

// rec is drawn of little, so that many are the same, or the same but for one thing; now and then it is large, or may not be, of which a request is told nothing.
func (d drawing) rec() api.Rec {
	r := api.Rec{Key: "k", Stamp: at(uint64(d.IntN(d.stamps)), uint32(d.IntN(2)), uint8(d.IntN(2)))}
	r.Kind = one[uint8](d.dice, 1, 2, 3, 3, 3)
	if r.Kind == 3 {
		r.Flags, r.Expiry = uint32(d.IntN(2)), uint64(d.IntN(2))
		r.Body = one(d.dice, "", "", "a", "ab", "b", "\xff", "a\x00", strings.Repeat("x", 40))
	}
	if d.IntN(25) > 0 {
		return r
	}
	switch d.IntN(7) {
	case 0:
		r.Key = one(d.dice, "", " ", "j", "kk", strings.Repeat("k", 251))
	case 1:
		r.Kind = one[uint8](d.dice, 0, 4, 255)
	case 2:
		r.Stamp = at(math.MaxUint64, math.MaxUint32, 255)
	case 3:
		r.Body = strings.Repeat("x", 1025)
	case 4:
		r.Expiry, r.Flags = math.MaxUint64, math.MaxUint32
	case 5:
		r.Kind, r.Body = 3, strings.Repeat("x", 1024)
	case 6:
		r = api.Rec{}
	}
	return r
}

// reply may have a record, may have none and look as if it had, and may say that it is over of what can't be.
func (d drawing) reply() api.Reply {
	r := api.Reply{Has: d.IntN(4) > 0, Past: d.IntN(3) == 0}
	if r.Has || d.IntN(2) == 0 {
		r.Rec = d.rec()
	}
	return r
}

// told is what a node is said to have answered.
type told struct {
	node  uint8
	reply api.Reply
}

// answers are many, of nodes that are asked and of others, and of some nodes several.
func (d drawing) answers(calls int) []told {
	l := make([]told, calls)
	for i := range l {
		l[i] = told{d.node(), d.reply()}
		// Often it is one that came already, from the same node or another one.
		if had := l[d.IntN(i+1)]; d.IntN(3) == 0 {
			l[i].reply = had.reply
			if d.IntN(3) == 0 {
				l[i].reply.Past = !had.reply.Past
			}
		}
	}
	return l
}
