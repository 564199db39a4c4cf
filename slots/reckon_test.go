package slots

import (
	"fmt"
	"maps"
	"math/rand/v2"
	"slices"
	"strconv"
	"testing"

	"tattler/api"
)

// slowMix and slowText follow chapter 1's words, apart from package mix.
func slowMix(x uint64) uint64 {
	x ^= x / (1 << 30)
	x *= 0xBF58476D1CE4E5B9
	x ^= x / (1 << 27)
	x *= 0x94D049BB133111EB
	return x ^ x/(1<<31)
}

func slowText(s string) uint64 {
	h := uint64(0x9E3779B97F4A7C15)
	for _, b := range []byte(s) {
		h = slowMix(h ^ uint64(b))
	}
	return slowMix(h ^ uint64(len(s)))
}

func slowHome(key string, slots int) int { return int(slowText(key) % uint64(slots)) }

// slowSlots is how many slots a table for so many keys has.
func slowSlots(keys int) int {
	for _, m := range []int{2, 4, 8, 16, 32, 64, 128, 256, 512, 1024} {
		if m >= 2*keys {
			return m
		}
	}
	return 2048
}

// model is a table that is reckoned apart from the program: numbers stand in a map, and on a drop all keys behind the hole are taken out and added anew.
type model struct {
	most, slots int
	number      map[string]int
	slot        map[string]int
	key         map[int]string // by slots
	homes       map[string]int // so that long keys are reckoned once
}

func newModel(n int) *model {
	return &model{n, slowSlots(n), map[string]int{}, map[string]int{}, map[int]string{}, map[string]int{}}
}

func (m *model) home(key string) int {
	at, known := m.homes[key]
	if !known {
		at = slowHome(key, m.slots)
		m.homes[key] = at
	}
	return at
}

func (m *model) next(at int) int {
	if at+1 == m.slots {
		return 0
	}
	return at + 1
}

func (m *model) empty(at int) bool {
	_, taken := m.key[at]
	return !taken
}

func (m *model) put(key string) {
	at := m.home(key)
	for !m.empty(at) {
		at = m.next(at)
	}
	m.slot[key], m.key[at] = at, key
}

func (m *model) take(key string) {
	delete(m.key, m.slot[key])
	delete(m.slot, key)
}

func (m *model) set(key string, v int) api.Errno {
	_, there := m.number[key]
	if !there && len(m.number) >= m.most {
		return 6
	}
	if !there {
		m.put(key)
	}
	m.number[key] = v
	return 0
}

func (m *model) drop(key string) bool {
	at, there := m.slot[key]
	if !there {
		return false
	}
	var row []string
	for at = m.next(at); !m.empty(at); at = m.next(at) {
		row = append(row, m.key[at])
	}
	m.take(key)
	for _, k := range row {
		m.take(k)
	}
	for _, k := range row {
		m.put(k)
	}
	delete(m.number, key)
	return true
}

func (m *model) get(key string) (int, bool) {
	v, there := m.number[key]
	return v, there
}

func (m *model) slotOf(key string) int {
	if at, there := m.slot[key]; there {
		return at
	}
	return -1
}

func (m *model) keys() []string {
	var l []string
	for _, at := range slices.Sorted(maps.Keys(m.key)) {
		l = append(l, m.key[at])
	}
	return l
}

// both is a table beside its model; behind each call all that can be asked of some keys is asked of both.
type both struct {
	t     *testing.T
	table *Table
	model *model
	keys  []string
}

func newBoth(t *testing.T, n int, keys ...string) *both {
	t.Helper()
	table, e := New(n)
	if e != api.OK || table == nil {
		t.Fatalf("New(%d): %v, %d", n, table, e)
	}
	b := &both{t, table, newModel(n), keys}
	b.check("New")
	return b
}

func (b *both) set(key string, v int) api.Errno {
	b.t.Helper()
	e, want := b.table.Set(key, v), b.model.set(key, v)
	if e != want {
		b.t.Fatalf("for %d keys: Set(%s, %d): %d, not %d", b.model.most, short(key), v, e, want)
	}
	b.check("Set(" + short(key) + ")")
	return e
}

func (b *both) drop(key string) bool {
	b.t.Helper()
	there, want := b.table.Drop(key), b.model.drop(key)
	if there != want {
		b.t.Fatalf("for %d keys: Drop(%s): %v, not %v", b.model.most, short(key), there, want)
	}
	b.check("Drop(" + short(key) + ")")
	return there
}

func (b *both) check(call string) {
	b.t.Helper()
	want := b.model.keys()
	if n := b.table.Len(); n != len(want) {
		b.t.Fatalf("for %d keys, behind %s: Len is %d, not %d", b.model.most, call, n, len(want))
	}
	if got := b.table.Keys(); !slices.Equal(got, want) {
		b.t.Fatalf("for %d keys, behind %s: Keys are %s, not %s", b.model.most, call, short(got), short(want))
	}
	for _, key := range b.keys {
		b.checkKey(call, key)
	}
	b.checkWays(call)
}

func (b *both) checkKey(call, key string) {
	b.t.Helper()
	v, there := b.table.Get(key)
	wantV, wantThere := b.model.get(key)
	if v != wantV || there != wantThere {
		b.t.Fatalf("for %d keys, behind %s: Get(%s): %d, %v, not %d, %v", b.model.most, call, short(key), v, there, wantV, wantThere)
	}
	if at, want := b.table.Slot(key), b.model.slotOf(key); at != want {
		b.t.Fatalf("for %d keys, behind %s: Slot(%s): %d, not %d", b.model.most, call, short(key), at, want)
	}
}

// checkWays goes by what the table itself answers, not by the model: each key has a slot of its own, in order, and from its home up to there none is empty.
func (b *both) checkWays(call string) {
	b.t.Helper()
	keys := b.table.Keys()
	slots := make([]int, len(keys))
	taken := make([]bool, b.model.slots)
	last := -1
	for i, key := range keys {
		at := b.table.Slot(key)
		if at <= last || at >= len(taken) {
			b.t.Fatalf("for %d keys, behind %s: %s has the slot %d, behind %d", b.model.most, call, short(key), at, last)
		}
		slots[i], taken[at], last = at, true, at
	}
	for i, key := range keys {
		for at := b.model.home(key); at != slots[i]; at = b.model.next(at) {
			if !taken[at] {
				b.t.Fatalf("for %d keys, behind %s: %s has the slot %d, and %d is empty", b.model.most, call, short(key), slots[i], at)
			}
		}
	}
}

func short(x any) string {
	s := fmt.Sprintf("%q", x)
	if len(s) > 200 {
		return s[:100] + " .. " + s[len(s)-100:]
	}
	return s
}

// homed finds keys by their homes, each another one.
type homed struct {
	slots int
	tried int
	keys  map[int][]string // by homes
}

func newHomed(slots int) *homed { return &homed{slots: slots, keys: map[int][]string{}} }

// key is the nth key of a home.
func (h *homed) key(home, nth int) string {
	for len(h.keys[home]) <= nth {
		key := "k" + strconv.Itoa(h.tried)
		h.tried++
		at := slowHome(key, h.slots)
		h.keys[at] = append(h.keys[at], key)
	}
	return h.keys[home][nth]
}

// row is keys of these homes, no two the same.
func (h *homed) row(homes ...int) []string {
	nth := map[int]int{}
	var l []string
	for _, home := range homes {
		l = append(l, h.key(home, nth[home]))
		nth[home]++
	}
	return l
}

// numbered is so many keys, each another one.
func numbered(n int) []string {
	var l []string
	for i := range n {
		l = append(l, "key"+strconv.Itoa(i))
	}
	return l
}

// dice draws what tests are made of: always the same, so that a test fails each time or never.
type dice struct{ *rand.Rand }

func newDice(seed uint64) dice { return dice{rand.New(rand.NewPCG(seed, 10))} }

func one[T any](d dice, l ...T) T { return l[d.IntN(len(l))] }
