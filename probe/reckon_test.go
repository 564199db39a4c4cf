package probe

import (
	"fmt"
	"math"
	"math/big"
	"math/rand/v2"
	"slices"
	"testing"

	"tattler/api"
)

// cut is a number without what is above 64 bits.
func cut(x *big.Int) *big.Int {
	return new(big.Int).And(x, new(big.Int).SetUint64(math.MaxUint64))
}

// bigMix is layer 1's mixing, with numbers that have no bound.
func bigMix(x *big.Int) *big.Int {
	for _, step := range []struct {
		shift uint
		times uint64
	}{{30, 0xBF58476D1CE4E5B9}, {27, 0x94D049BB133111EB}, {31, 1}} {
		x = new(big.Int).Xor(x, new(big.Int).Rsh(x, step.shift))
		x = cut(new(big.Int).Mul(x, new(big.Int).SetUint64(step.times)))
	}
	return x
}

// drawnPlace is Two of x and i, modulo i and 1.
func drawnPlace(x uint64, i int) int {
	two := bigMix(new(big.Int).Xor(bigMix(new(big.Int).SetUint64(x)), big.NewInt(int64(i))))
	return int(new(big.Int).Mod(two, big.NewInt(int64(i)+1)).Int64())
}

// model is a probe that is reckoned apart from the program: it keeps the number of the tick at which each wait began, and takes a new row out of the old one, from its end on.
type model struct {
	self   uint8
	n      int
	tick   int
	row    []uint8
	pinged int // how many of the row
	since  map[uint8]int
}

func newModel(self uint8, n int) *model {
	m := &model{self: self, n: n, since: map[uint8]int{}}
	m.row = others(self, n)
	return m
}

// others are all nodes but one, rising.
func others(self uint8, n int) []uint8 {
	return slices.DeleteFunc(below(n), func(node uint8) bool { return node == self })
}

func below(n int) []uint8 {
	l := make([]uint8, n)
	for i := range l {
		l[i] = uint8(i)
	}
	return l
}

// waits are sorted by the ticks at which they began: in one tick no two begin.
func (m *model) waits() []uint8 {
	var nodes []uint8
	for tick := 1; tick <= m.tick; tick++ {
		for node, since := range m.since {
			if since == tick {
				nodes = append(nodes, node)
			}
		}
	}
	return nodes
}

func (m *model) answer(node uint8) bool {
	_, some := m.since[node]
	delete(m.since, node)
	return some
}

func (m *model) ticks(x uint64, helpers []uint8) api.Round {
	var r api.Round
	m.tick++
	for _, node := range m.waits() {
		switch m.tick - m.since[node] {
		case 1:
			for _, helper := range m.helpers(node, x, helpers) {
				r.Asks = append(r.Asks, api.Ask{Helper: helper, Target: node})
			}
		case 2:
			r.Failed = append(r.Failed, node)
			delete(m.since, node)
		}
	}
	if m.n == 1 {
		return r
	}
	if m.pinged == m.n-1 {
		m.row, m.pinged = shuffled(m.row, x), 0
	}
	node := m.row[m.pinged]
	m.pinged++
	r.Pings = []uint8{node}
	if _, some := m.since[node]; !some {
		m.since[node] = m.tick
	}
	return r
}

// helpers is the whole list, turned, with all struck out that isn't asked, and cut to two.
func (m *model) helpers(target uint8, x uint64, helpers []uint8) []uint8 {
	if len(helpers) == 0 {
		return nil
	}
	first := new(big.Int).Mod(new(big.Int).SetUint64(x), big.NewInt(int64(len(helpers)))).Int64()
	turned := slices.Concat(helpers[first:], helpers[:first])
	var had [256]bool
	turned = slices.DeleteFunc(turned, func(node uint8) bool {
		out := node == target || node == m.self || int(node) > m.n-1 || had[node]
		had[node] = true
		return out
	})
	return turned[:min(2, len(turned))]
}

// shuffled is a new row out of an old one, from the end on: one is drawn of those that are left, and the last one that is left stands where it stood.
func shuffled(old []uint8, x uint64) []uint8 {
	left, row := slices.Clone(old), make([]uint8, len(old))
	for i := len(old) - 1; i >= 1; i-- {
		j := drawnPlace(x, i)
		row[i] = left[j]
		left[j] = left[i]
	}
	if len(row) > 0 {
		row[0] = left[0]
	}
	return row
}

// both is a probe beside its model, and beside a tally of what the probe itself answered.
type both struct {
	t     *testing.T
	probe *Probe
	model *model
	tally tally
	calls string // all calls so far, to be told where something is wrong
}

// tally is the ticks at which each node was pinged last, and at which it was pinged first since it answered or failed (0: it wasn't), and how often it was pinged in this round of all.
type tally struct {
	tick              int
	last, first, turn [64]int
}

func newProbe(t *testing.T, self uint8, n int) *Probe {
	t.Helper()
	p, e := New(self, n)
	if e != api.OK || p == nil {
		t.Fatalf("New(%d, %d): %v, %d", self, n, p, e)
	}
	return p
}

func newBoth(t *testing.T, self uint8, n int) *both {
	t.Helper()
	b := &both{t: t, probe: newProbe(t, self, n), model: newModel(self, n)}
	b.calls = fmt.Sprintf("New(%d, %d)", self, n)
	b.check()
	return b
}

func same(a, b api.Round) bool {
	return slices.Equal(a.Pings, b.Pings) && slices.Equal(a.Asks, b.Asks) && slices.Equal(a.Failed, b.Failed)
}

func (b *both) tick(x uint64, helpers ...uint8) api.Round {
	b.t.Helper()
	b.calls += fmt.Sprintf("; Tick %#x %d", x, helpers)
	got, want := b.probe.Tick(x, helpers), b.model.ticks(x, helpers)
	if !same(got, want) {
		b.t.Fatalf("%s: %v, not %v", b.calls, got, want)
	}
	b.tallyFailed(got.Failed)
	b.tallyPings(got.Pings)
	b.check()
	return got
}

// tallyFailed is P19.3, by what the probe itself answered: those have failed that were pinged two ticks ago and didn't answer, and no others.
func (b *both) tallyFailed(failed []uint8) {
	b.t.Helper()
	y := &b.tally
	y.tick++
	for node := range uint8(64) {
		late := y.first[node] > 0 && y.tick-y.first[node] == 2
		if late != slices.Contains(failed, node) {
			b.t.Fatalf("%s: %d have failed, and %d: %v", b.calls, failed, node, late)
		}
		if late {
			y.first[node] = 0
		}
	}
}

// tallyPings is P19.2, by what the probe itself answered.
func (b *both) tallyPings(pings []uint8) {
	b.t.Helper()
	y, n, self := &b.tally, b.model.n, b.model.self
	if len(pings) != min(1, n-1) {
		b.t.Fatalf("%s: %d are pinged", b.calls, pings)
	}
	for _, node := range pings {
		if node == self || int(node) >= n {
			b.t.Fatalf("%s: %d is pinged", b.calls, node)
		}
		y.last[node] = y.tick
		y.turn[node]++
		if y.first[node] == 0 {
			y.first[node] = y.tick
		}
	}
	for _, node := range others(self, n) {
		if y.tick >= 2*n-3 && y.tick-y.last[node] >= 2*n-3 {
			b.t.Fatalf("%s: %d wasn't pinged since the tick %d of %d", b.calls, node, y.last[node], y.tick)
		}
		if y.tick%(n-1) == 0 && y.turn[node] != 1 {
			b.t.Fatalf("%s: %d was pinged %d times in %d ticks", b.calls, node, y.turn[node], n-1)
		}
	}
	if n > 1 && y.tick%(n-1) == 0 {
		y.turn = [64]int{}
	}
}

func (b *both) answer(node uint8) bool {
	b.t.Helper()
	b.calls += fmt.Sprint("; Answer ", node)
	got, want := b.probe.Answer(node), b.model.answer(node)
	if got != want || got != (node < 64 && b.tally.first[node%64] > 0) {
		b.t.Fatalf("%s: %v, not %v", b.calls, got, want)
	}
	if got {
		b.tally.first[node] = 0
	}
	b.check()
	return got
}

// check is Waits, behind each call, and twice, as it changes nothing.
func (b *both) check() {
	b.t.Helper()
	want := b.model.waits()
	for range 2 {
		if got := b.probe.Waits(); !slices.Equal(got, want) {
			b.t.Fatalf("%s: waits for %d, not %d", b.calls, got, want)
		}
	}
}

// known is a doubt of the model's: the time at which it is over has no bound.
type known struct {
	node uint8
	inc  uint32
	end  *big.Int
}

// doubtsModel is doubts that are reckoned apart from the program: a list, out of which the least node is searched for again and again.
type doubtsModel struct {
	ticks int
	list  []known
}

func (m *doubtsModel) strike(node uint8, inc uint64) bool {
	had := len(m.list)
	m.list = slices.DeleteFunc(m.list, func(k known) bool { return k.node == node && uint64(k.inc) < inc })
	return len(m.list) < had
}

func (m *doubtsModel) begin(node uint8, inc uint32, now uint64) bool {
	m.strike(node, uint64(inc))
	if slices.ContainsFunc(m.list, func(k known) bool { return k.node == node }) {
		return false
	}
	end := new(big.Int).Add(new(big.Int).SetUint64(now), big.NewInt(int64(m.ticks)))
	m.list = append(m.list, known{node, inc, end})
	return true
}

func (m *doubtsModel) over(now uint64) []api.News {
	var news []api.News
	for node := range 256 {
		for _, k := range m.list {
			if int(k.node) == node && k.end.Cmp(new(big.Int).SetUint64(now)) <= 0 {
				news = append(news, dead(k.node, k.inc))
			}
		}
	}
	for _, x := range news {
		m.strike(x.Node, 1<<32)
	}
	return news
}

// dead is the news that a node is.
func dead(node uint8, inc uint32) api.News {
	return api.News{Node: node, Member: api.Member{State: 3, Inc: inc}}
}

// twoDoubts is doubts beside their model, and beside a tally of when each began, by what they answered themselves.
type twoDoubts struct {
	t      *testing.T
	doubts *Doubts
	model  *doubtsModel
	began  map[uint8]doubted
	calls  string
}

// doubted is what Begin took last of a node.
type doubted struct {
	inc uint32
	at  uint64
}

func newDoubts(t *testing.T, ticks int) *Doubts {
	t.Helper()
	d, e := NewDoubts(ticks)
	if e != api.OK || d == nil {
		t.Fatalf("NewDoubts(%d): %v, %d", ticks, d, e)
	}
	return d
}

func newTwoDoubts(t *testing.T, ticks int) *twoDoubts {
	t.Helper()
	return &twoDoubts{t: t, doubts: newDoubts(t, ticks), model: &doubtsModel{ticks: ticks}, began: map[uint8]doubted{}, calls: fmt.Sprintf("NewDoubts(%d)", ticks)}
}

func (b *twoDoubts) begin(node uint8, inc uint32, now uint64) bool {
	b.t.Helper()
	b.calls += fmt.Sprintf("; Begin %d %d %d", node, inc, now)
	got, want := b.doubts.Begin(node, inc, now), b.model.begin(node, inc, now)
	if got != want {
		b.t.Fatalf("%s: %v, not %v", b.calls, got, want)
	}
	if got {
		b.began[node] = doubted{inc, now}
	}
	return got
}

func (b *twoDoubts) end(node uint8, inc uint32) bool {
	b.t.Helper()
	b.calls += fmt.Sprintf("; End %d %d", node, inc)
	got, want := b.doubts.End(node, inc), b.model.strike(node, uint64(inc))
	if got != want {
		b.t.Fatalf("%s: %v, not %v", b.calls, got, want)
	}
	if got {
		delete(b.began, node)
	}
	return got
}

func (b *twoDoubts) over(now uint64) []api.News {
	b.t.Helper()
	b.calls += fmt.Sprint("; Over ", now)
	got, want := b.doubts.Over(now), b.model.over(now)
	if !slices.Equal(got, want) {
		b.t.Fatalf("%s: %v, not %v", b.calls, got, want)
	}
	b.wholeTime(got, now)
	return got
}

// wholeTime is P19.4, by what the doubts themselves answered: each is as it began last, and all its ticks have gone by since then.
func (b *twoDoubts) wholeTime(news []api.News, now uint64) {
	b.t.Helper()
	for _, x := range news {
		began, some := b.began[x.Node]
		if !some || x != dead(x.Node, began.inc) || now < began.at || now-began.at < uint64(b.model.ticks) {
			b.t.Fatalf("%s: %v, which began as %v", b.calls, x, began)
		}
		delete(b.began, x.Node)
	}
	for node, began := range b.began {
		if now >= began.at && now-began.at >= uint64(b.model.ticks) {
			b.t.Fatalf("%s: %d isn't over, which began as %v", b.calls, node, began)
		}
	}
}

// drain is that all doubts which can be over are over in the end, once.
func (b *twoDoubts) drain() {
	b.t.Helper()
	b.over(math.MaxUint64)
	if l := b.over(math.MaxUint64); len(l) != 0 {
		b.t.Fatalf("%s: %v again", b.calls, l)
	}
}

// dice draws what tests are made of: always the same, so that a test fails each time or never.
type dice struct{ *rand.Rand }

func newDice(seed uint64) dice { return dice{rand.New(rand.NewPCG(seed, 19))} }

func one[T any](d dice, l ...T) T { return l[d.IntN(len(l))] }

// draw is a number of 64 bits: small, near the greatest one, or any.
func (d dice) draw() uint64 {
	return one(d, uint64(d.IntN(70)), math.MaxUint64-uint64(d.IntN(70)), d.Uint64(), d.Uint64())
}

// someHelpers are nodes in any order, some of them twice, some of them none that there is.
func (d dice) someHelpers(n int) []uint8 {
	helpers := make([]uint8, d.IntN(one(d, 1, 3, 6, n+4)))
	for i := range helpers {
		helpers[i] = uint8(d.IntN(n))
		if d.IntN(10) == 0 {
			helpers[i] = one(d, uint8(n), 63, 64, 255, uint8(d.IntN(256)))
		}
	}
	return helpers
}

// drawnCall is a tick, or an answer: mostly of a node that is waited for.
func (b *both) drawnCall(d dice, answers int) {
	b.t.Helper()
	waits := b.model.waits()
	switch {
	case d.IntN(100) >= answers:
		b.tick(d.draw(), d.someHelpers(b.model.n)...)
	case len(waits) > 0 && d.IntN(4) > 0:
		b.answer(one(d, waits...))
	default:
		b.answer(one(d, uint8(d.IntN(b.model.n)), b.model.self, uint8(d.IntN(256))))
	}
}

func (b *both) drawnCalls(d dice, calls int) {
	b.t.Helper()
	answers := 0
	for i := range calls {
		if i%40 == 0 {
			answers = one(d, 0, 10, 40, 60)
		}
		b.drawnCall(d, answers)
	}
}

// drawnCalls goes through a time that mostly rises.
func (b *twoDoubts) drawnCalls(d dice, now uint64, nodes, calls int) {
	b.t.Helper()
	for range calls {
		node, inc := uint8(d.IntN(nodes)), uint32(d.IntN(4))
		if d.IntN(20) == 0 {
			inc = one[uint32](d, 1<<31, math.MaxUint32-1, math.MaxUint32)
		}
		switch d.IntN(8) {
		case 0, 1, 2:
			b.begin(node, inc, now)
		case 3:
			b.end(node, inc)
		case 4, 5:
			b.over(now)
		case 6:
			now += uint64(d.IntN(one(d, 3, b.model.ticks+1)))
		case 7:
			b.over(now - uint64(d.IntN(one(d, 2, 2*b.model.ticks))))
		}
	}
	b.drain()
}
