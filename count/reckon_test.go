package count

import (
	"fmt"
	"math/big"
	"math/rand/v2"
	"slices"
	"testing"

	"tattler/api"
)

const top = 1<<64 - 1

// beyond is the least number that no count may be.
var beyond = new(big.Int).Lsh(big.NewInt(1), 64)

// shown is what a count is, to which so much was added.
func shown(given *big.Int) uint64 {
	if given.Cmp(beyond) >= 0 {
		return top
	}
	return given.Uint64()
}

// model is reckoned apart from the program: rows of names and of numbers without a bound, in which a name is looked for from the front; the bound comes in only when a number is told.
type model struct {
	names []string
	given []*big.Int
}

// newModel is nil where there may be no counts.
func newModel(names []string) *model {
	if len(names) < 1 || len(names) > 4096 {
		return nil
	}
	m := &model{}
	for _, name := range names {
		if name == "" || m.at(name) >= 0 {
			return nil
		}
		m.names = append(m.names, name)
		m.given = append(m.given, new(big.Int))
	}
	return m
}

func (m *model) at(name string) int {
	for at, x := range m.names {
		if x == name {
			return at
		}
	}
	return -1
}

func (m *model) add(name string, n uint64) bool {
	at := m.at(name)
	if at < 0 {
		return false
	}
	m.given[at].Add(m.given[at], new(big.Int).SetUint64(n))
	return true
}

func (m *model) get(name string) uint64 {
	if at := m.at(name); at >= 0 {
		return shown(m.given[at])
	}
	return 0
}

func (m *model) all() []api.Stat {
	var l []api.Stat
	for at, name := range m.names {
		l = append(l, api.Stat{Name: name, Value: shown(m.given[at])})
	}
	return l
}

func (m *model) reset() []api.Stat {
	l := m.all()
	for at := range m.given {
		m.given[at] = new(big.Int)
	}
	return l
}

// told is what the Counts themselves answered of a name: what was added by Adds that weren't refused, what Resets answered, and what it had behind the last call.
type told struct {
	added, reset big.Int
	had          uint64
}

// both is Counts beside their model, and beside a tally of what the Counts themselves answered.
type both struct {
	t      *testing.T
	counts *Counts
	model  *model
	tally  map[string]*told
	calls  string // all calls so far, to be told where something is wrong
}

func newCounts(t *testing.T, names ...string) *Counts {
	t.Helper()
	c, e := New(names)
	if e != api.OK || c == nil {
		t.Fatalf("New(%.60q): %v, %d", names, c, e)
	}
	return c
}

func newBoth(t *testing.T, names ...string) *both {
	t.Helper()
	b := &both{t: t, counts: newCounts(t, names...), model: newModel(names), tally: map[string]*told{}}
	if b.model == nil {
		t.Fatalf("New(%.60q): there are counts", names)
	}
	b.calls = fmt.Sprintf("New(%.60q)", names)
	for _, name := range names {
		b.tally[name] = &told{}
	}
	b.check(false)
	return b
}

func (b *both) add(name string, n uint64) bool {
	b.t.Helper()
	b.calls += fmt.Sprintf("; Add(%.20q, %d)", name, n)
	got, want := b.counts.Add(name, n), b.model.add(name, n)
	if got != want {
		b.t.Fatalf("%s: %v, not %v", b.calls, got, want)
	}
	if x := b.tally[name]; got && x != nil {
		x.added.Add(&x.added, new(big.Int).SetUint64(n))
	}
	b.check(false)
	return got
}

func (b *both) get(name string) uint64 {
	b.t.Helper()
	b.calls += fmt.Sprintf("; Get(%.20q)", name)
	got, want := b.counts.Get(name), b.model.get(name)
	if got != want {
		b.t.Fatalf("%s: %d, not %d", b.calls, got, want)
	}
	return got
}

func (b *both) all() []api.Stat {
	b.t.Helper()
	b.calls += "; All"
	got, want := b.counts.All(), b.model.all()
	if !slices.Equal(got, want) {
		b.t.Fatalf("%s: %.60v, not %.60v", b.calls, got, want)
	}
	b.check(false)
	return got
}

func (b *both) reset() []api.Stat {
	b.t.Helper()
	b.calls += "; Reset"
	got, want := b.counts.Reset(), b.model.reset()
	if !slices.Equal(got, want) {
		b.t.Fatalf("%s: %.60v, not %.60v", b.calls, got, want)
	}
	for _, x := range got {
		if of := b.tally[x.Name]; of != nil {
			of.reset.Add(&of.reset, new(big.Int).SetUint64(x.Value))
		}
	}
	b.check(true)
	return got
}

// check asks for everything, twice, as asking changes nothing; behind each call.
func (b *both) check(reset bool) {
	b.t.Helper()
	want := b.model.all()
	for range 2 {
		if got := b.counts.All(); !slices.Equal(got, want) {
			b.t.Fatalf("%s: All is %.60v, not %.60v", b.calls, got, want)
		}
		for _, x := range want {
			if n := b.counts.Get(x.Name); n != x.Value {
				b.t.Fatalf("%s: Get(%.20q) is %d, not %d", b.calls, x.Name, n, x.Value)
			}
		}
	}
	for _, x := range want {
		b.hold(x.Name, reset)
	}
}

// hold is P23.2 and P23.3 of one name, by what the Counts themselves answered.
func (b *both) hold(name string, reset bool) {
	b.t.Helper()
	x, has := b.tally[name], b.counts.Get(name)
	if has < x.had && !reset || reset && has != 0 {
		b.t.Fatalf("%s: %.20q was %d, and is %d", b.calls, name, x.had, has)
	}
	x.had = has
	got := new(big.Int).Add(&x.reset, new(big.Int).SetUint64(has))
	if x.added.Cmp(beyond) < 0 && got.Cmp(&x.added) != 0 {
		b.t.Fatalf("%s: of %.20q %d are told, %d were added", b.calls, name, got, &x.added)
	}
	if got.Cmp(&x.added) > 0 {
		b.t.Fatalf("%s: of %.20q %d are told, only %d were added", b.calls, name, got, &x.added)
	}
}

// dice draws what tests are made of: always the same, so that a test fails each time or never.
type dice struct{ *rand.Rand }

func newDice(seed uint64) dice { return dice{rand.New(rand.NewPCG(seed, 23))} }

func one[T any](d dice, l ...T) T { return l[d.IntN(len(l))] }

// text is any bytes, of a length up to most.
func (d dice) text(most int) string {
	s := make([]byte, d.IntN(most+1))
	for i := range s {
		s[i] = byte(d.IntN(256))
	}
	return string(s)
}

// odd are names that are easily taken for one another, or for none.
var odd = []string{
	"a", "A", "b", "aa", "ab", "ba", "a ", " a", " ", "  ", "a\x00", "\x00a", "\x00", "\x00\x00", "a\n", "\r\n", "\t", "\xff", "\xff\xff", "\xc3", "\xc3\xa9", "e\xcc\x81",
	"\xed\xa0\x80", "\xef\xbf\xbd", "\xf4\x90\x80\x80", "ss", "\xc3\x9f", "0", "00", "1", "-1", "+1", "a,b", "a.b", "a=b", "gets", "hits", "%d", "\"", "\\",
}

// name is one that may be.
func (d dice) name() string {
	switch d.IntN(6) {
	case 0:
		return one(d, "a", "b") + d.text(300)
	case 1:
		return string(rune('a' + d.IntN(26)))
	case 2:
		return one(d, "gets", "hits", "sets", "deletes", "touches", "stored", "lost", "refused", "frames", "bad")
	case 3:
		return one(d, odd...)
	}
	return d.text(3) + one(d, "", "", "x") + string([]byte{byte(d.IntN(256))})
}

// names are up to most, in any order, none of them twice.
func (d dice) names(most int) []string {
	var l []string
	for want := 1 + d.IntN(most); len(l) < want; {
		if name := d.name(); !slices.Contains(l, name) {
			l = append(l, name)
		}
	}
	return l
}

// number is one of 64 bits: small, of any length, or near a bound.
func (d dice) number() uint64 {
	switch d.IntN(5) {
	case 0:
		return uint64(d.IntN(4))
	case 1:
		return d.Uint64() >> d.IntN(64)
	case 2:
		return one[uint64](d, 1<<8, 1<<16, 1<<31, 1<<32, 1<<53, 1<<62, 1<<63, 0) - uint64(d.IntN(4))
	case 3:
		return one[uint64](d, 1<<8, 1<<16, 1<<31, 1<<32, 1<<53, 1<<62, 1<<63, 0) + uint64(d.IntN(4))
	}
	return uint64(d.IntN(1000))
}
