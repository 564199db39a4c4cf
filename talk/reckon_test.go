package talk

import (
	"fmt"
	"math/rand/v2"
	"slices"
	"testing"

	"tattler/api"
)

// news is short for tables.
func news(node, state uint8, inc uint32) api.News {
	return api.News{Node: node, Member: api.Member{State: state, Inc: inc}}
}

// known is what the model has of a node: its news, how often that was told, and at which moment it came.
type known struct {
	news         api.News
	told, moment int
}

// model is a talk that is reckoned apart from the program: a map of nodes, out of which the first one is searched for again and again.
type model struct {
	times, most, moment int
	of                  map[uint8]known
}

func newModel(times, most int) *model {
	return &model{times: times, most: most, of: map[uint8]known{}}
}

func (m *model) add(x api.News) api.Errno {
	if x.Node > 63 {
		return 1
	}
	m.moment++
	m.of[x.Node] = known{x, 0, m.moment}
	return 0
}

// first is the node that is told ahead of all others but those that are passed by.
func (m *model) first(passed map[uint8]int) (uint8, bool) {
	var best known
	for node, k := range m.of {
		if _, pass := passed[node]; pass {
			continue
		}
		if best.moment == 0 || k.told < best.told || k.told == best.told && k.moment > best.moment {
			best = k
		}
	}
	return best.news.Node, best.moment > 0
}

func (m *model) take() []api.News {
	var l []api.News
	passed := map[uint8]int{}
	for len(l) < m.most {
		node, some := m.first(passed)
		if !some {
			break
		}
		passed[node]++
		k := m.of[node]
		k.told++
		m.of[node] = k
		l = append(l, k.news)
		if k.told == m.times {
			delete(m.of, node)
		}
	}
	return l
}

// both is a talk beside its model, and beside a tally of what the talk itself answered.
type both struct {
	t     *testing.T
	talk  *Talk
	model *model
	tally [64]told
	calls string // all calls so far, to be told where something is wrong
}

// told is a node's news since it was added, and how often Take answered it since then.
type told struct {
	there bool
	news  api.News
	times int
}

func newTalk(t *testing.T, times, most int) *Talk {
	t.Helper()
	x, e := New(times, most)
	if e != api.OK || x == nil {
		t.Fatalf("New(%d, %d): %v, %d", times, most, x, e)
	}
	return x
}

func newBoth(t *testing.T, times, most int) *both {
	t.Helper()
	b := &both{t: t, talk: newTalk(t, times, most), model: newModel(times, most)}
	b.calls = fmt.Sprintf("New(%d, %d)", times, most)
	b.check()
	return b
}

func (b *both) add(x api.News) api.Errno {
	b.t.Helper()
	b.calls += fmt.Sprint("; Add ", x)
	e, want := b.talk.Add(x), b.model.add(x)
	if e != want {
		b.t.Fatalf("%s: %d, not %d", b.calls, e, want)
	}
	if int(x.Node) < len(b.tally) {
		b.tally[x.Node] = told{true, x, 0}
	}
	b.check()
	return e
}

// addAll adds news of these nodes, of the state and the incarnation given.
func (b *both) addAll(state uint8, inc uint32, nodes ...uint8) {
	b.t.Helper()
	for _, node := range nodes {
		b.add(news(node, state, inc))
	}
}

func (b *both) take() []api.News {
	b.t.Helper()
	b.calls += "; Take"
	had := b.talk.Len()
	got, want := b.talk.Take(), b.model.take()
	if !slices.Equal(got, want) {
		b.t.Fatalf("%s: %v, not %v", b.calls, got, want)
	}
	b.count(got, had)
	b.check()
	return got
}

// count goes by what the talk itself answers, not by the model: as many as there were, at most most of them, none of them twice, each as it was added last and not too often.
func (b *both) count(got []api.News, had int) {
	b.t.Helper()
	if len(got) != min(had, b.model.most) {
		b.t.Fatalf("%s: %d pieces of %d", b.calls, len(got), had)
	}
	var seen [64]int
	for _, x := range got {
		n := &b.tally[x.Node]
		seen[x.Node]++
		n.times++
		if !n.there || n.news != x || seen[x.Node] > 1 || n.times > b.model.times {
			b.t.Fatalf("%s: %v of %v", b.calls, x, got)
		}
		n.there = n.times < b.model.times
	}
}

// check is Len, behind each call, and twice, as it changes nothing.
func (b *both) check() {
	b.t.Helper()
	there := 0
	for _, n := range b.tally {
		if n.there {
			there++
		}
	}
	for range 2 {
		if n := b.talk.Len(); n != len(b.model.of) || n != there || n > 64 {
			b.t.Fatalf("%s: Len is %d, not %d, %d", b.calls, n, len(b.model.of), there)
		}
	}
}

// drain is P18.2: Take until there is nothing; then each piece that wasn't replaced was told just times times.
func (b *both) drain() {
	b.t.Helper()
	left := 0
	for _, n := range b.tally {
		if n.there {
			left += b.model.times - n.times
		}
	}
	takes := 0
	for b.talk.Len() > 0 {
		if takes++; takes > left {
			b.t.Fatalf("%s: it never ends", b.calls)
		}
		b.take()
	}
	for node, n := range b.tally {
		if n.times != b.model.times && n != (told{}) {
			b.t.Fatalf("%s: of %d %d times", b.calls, node, n.times)
		}
	}
	if l := b.take(); len(l) != 0 {
		b.t.Fatalf("%s: %v of nothing", b.calls, l)
	}
}

// dice draws what tests are made of: always the same, so that a test fails each time or never.
type dice struct{ *rand.Rand }

func newDice(seed uint64) dice { return dice{rand.New(rand.NewPCG(seed, 18))} }

func one[T any](d dice, l ...T) T { return l[d.IntN(len(l))] }

// drawn is a piece of news of a node below a bound, now and then of one that there isn't; its state may be any.
func (d dice) drawn(nodes int) api.News {
	x := news(uint8(d.IntN(nodes)), uint8(1+d.IntN(4)), uint32(d.IntN(3)))
	switch d.IntN(12) {
	case 0:
		x.Node = one(d, 64, 65, 127, 128, 255, uint8(64+d.IntN(192)))
	case 1:
		x.Member = api.Member{State: uint8(d.IntN(256)), Inc: d.Uint32()}
	}
	return x
}

// drawnCalls grows or shrinks a talk by turns.
func (b *both) drawnCalls(d dice, nodes, calls int) {
	b.t.Helper()
	adds := 50
	for i := range calls {
		if i%40 == 0 {
			adds = one(d, 5, 20, 50, 80, 98)
		}
		b.drawnCall(d, nodes, adds)
	}
}

func (b *both) drawnCall(d dice, nodes, adds int) {
	b.t.Helper()
	if d.IntN(100) < adds {
		b.add(d.drawn(nodes))
	} else {
		b.take()
	}
}
