package store

import (
	"cmp"
	"fmt"
	"math"
	"math/rand/v2"
	"reflect"
	"slices"
	"strconv"
	"strings"
	"testing"

	"tattler/api"
	"tattler/mix"
	"tattler/rec"
)

// stamps lays two stamps against each other, apart from the program.
func stamps(a, b api.Stamp) int {
	return cmp.Or(cmp.Compare(a.Phys, b.Phys), cmp.Compare(a.Logical, b.Logical), cmp.Compare(a.Node, b.Node))
}

// stands tells how two records of one key stand to each other, apart from the program.
func stands(a, b api.Rec) int {
	return cmp.Or(stamps(a.Stamp, b.Stamp), cmp.Compare(a.Kind, b.Kind), cmp.Compare(a.Body, b.Body), cmp.Compare(a.Flags, b.Flags), cmp.Compare(a.Expiry, b.Expiry))
}

// model is a store that is reckoned apart from the program: a row of records, the one used last first, gone through from its beginning to its end for each answer.
type model struct {
	slots, bytes, keep int
	recs               []api.Rec
	floors             [64]api.Stamp
	evicted            int
}

func (m *model) find(key string) int {
	return slices.IndexFunc(m.recs, func(r api.Rec) bool { return r.Key == key })
}

func (m *model) size() int {
	n := 0
	for _, r := range m.recs {
		n += len(r.Key + r.Body)
	}
	return n
}

func (m *model) put(r api.Rec, now uint64) (bool, api.Errno) {
	if !rec.May(r) {
		return false, api.ErrArg
	}
	if now >= uint64(m.keep) && r.Stamp.Phys <= now-uint64(m.keep) {
		return false, api.ErrOld
	}
	at := m.find(r.Key)
	switch {
	case at >= 0 && stands(r, m.recs[at]) < 0:
		return false, api.ErrOld
	case at >= 0 && r == m.recs[at]:
		return false, api.OK
	case at < 0 && stamps(m.floors[mix.Range(r.Key)], r.Stamp) >= 0:
		return false, api.ErrOld
	case len(r.Key+r.Body) > m.bytes:
		return false, api.ErrFull
	}
	if at >= 0 {
		m.recs = slices.Delete(m.recs, at, at+1)
	}
	for len(m.recs) >= m.slots || m.size()+len(r.Key+r.Body) > m.bytes {
		out := m.recs[len(m.recs)-1]
		m.recs = m.recs[:len(m.recs)-1]
		if f := &m.floors[mix.Range(out.Key)]; stamps(out.Stamp, *f) > 0 {
			*f = out.Stamp
		}
		m.evicted++
	}
	m.recs = slices.Insert(m.recs, 0, r)
	return true, api.OK
}

func (m *model) get(key string) (api.Rec, bool) {
	r, there := m.peek(key)
	if there {
		at := m.find(key)
		m.recs = slices.Insert(slices.Delete(m.recs, at, at+1), 0, r)
	}
	return r, there
}

func (m *model) peek(key string) (api.Rec, bool) {
	if at := m.find(key); at >= 0 {
		return m.recs[at], true
	}
	return api.Rec{}, false
}

func (m *model) purge(now uint64) int {
	n := len(m.recs)
	m.recs = slices.DeleteFunc(m.recs, func(r api.Rec) bool {
		return now >= uint64(m.keep) && r.Stamp.Phys <= now-uint64(m.keep)
	})
	return n - len(m.recs)
}

func (m *model) byRange() map[int][]api.Rec {
	ranges := map[int][]api.Rec{}
	for _, r := range m.recs {
		k := mix.Range(r.Key)
		ranges[k] = append(ranges[k], r)
	}
	for _, l := range ranges {
		slices.SortFunc(l, func(a, b api.Rec) int { return cmp.Compare(a.Key, b.Key) })
	}
	return ranges
}

// both is a store beside its model; behind each call all that can be asked without a change is asked of both.
type both struct {
	t     *testing.T
	store *Store
	model model
	keys  []string           // those that are asked for
	had   map[string]api.Rec // of each key what it had that stands behind all else it had
	now   uint64             // the greatest time so far
	back  bool               // a time went back: P13.2 says nothing any more
}

func newBoth(t *testing.T, slots, bytes, keep int, keys ...string) *both {
	t.Helper()
	s, e := New(slots, bytes, keep)
	if e != api.OK || s == nil {
		t.Fatalf("New(%d, %d, %d): %d", slots, bytes, keep, e)
	}
	b := &both{t: t, store: s, model: model{slots: slots, bytes: bytes, keep: keep}, keys: keys, had: map[string]api.Rec{}}
	b.check("New")
	return b
}

func (b *both) put(r api.Rec, now uint64) (bool, api.Errno) {
	b.t.Helper()
	b.time(now)
	fresh, e := b.store.Put(r, now)
	wantFresh, want := b.model.put(r, now)
	if fresh != wantFresh || e != want {
		b.t.Fatalf("Put(%s, %d): %v, %d, not %v, %d", tell(r), now, fresh, e, wantFresh, want)
	}
	b.check("Put(%s, %d)", tell(r), now)
	return fresh, e
}

func (b *both) get(key string) (api.Rec, bool) {
	b.t.Helper()
	r, there := b.store.Get(key)
	if want, wantThere := b.model.get(key); r != want || there != wantThere {
		b.t.Fatalf("Get(%q): %s, %v, not %s, %v", key, tell(r), there, tell(want), wantThere)
	}
	b.check("Get(%q)", key)
	return r, there
}

func (b *both) purge(now uint64) int {
	b.t.Helper()
	b.time(now)
	n := b.store.Purge(now)
	if want := b.model.purge(now); n != want {
		b.t.Fatalf("Purge(%d): %d, not %d", now, n, want)
	}
	b.check("Purge(%d)", now)
	return n
}

func (b *both) time(now uint64) {
	b.back = b.back || now < b.now
	b.now = max(b.now, now)
}

func (b *both) check(form string, what ...any) {
	b.t.Helper()
	fail := func(form2 string, rest ...any) {
		b.t.Helper()
		b.t.Fatalf("behind "+form+": "+form2, slices.Concat(what, rest)...)
	}
	m := &b.model
	if n := b.store.Len(); n != len(m.recs) || n > m.slots {
		fail("Len: %d, not %d, of at most %d", n, len(m.recs), m.slots)
	}
	if n := b.store.Size(); n != m.size() || n > m.bytes {
		fail("Size: %d, not %d, of at most %d", n, m.size(), m.bytes)
	}
	if n := b.store.Evicted(); n != m.evicted {
		fail("Evicted: %d, not %d", n, m.evicted)
	}
	for _, key := range b.keys {
		r, there := b.store.Peek(key)
		if want, wantThere := m.peek(key); r != want || there != wantThere {
			fail("Peek(%q): %s, %v, not %s, %v", key, tell(r), there, tell(want), wantThere)
		}
	}
	ranges := m.byRange()
	for k := -1; k <= 64; k++ {
		b.checkRange(k, ranges[k], fail)
	}
	b.neverBackwards(fail)
}

func (b *both) checkRange(k int, want []api.Rec, fail func(string, ...any)) {
	if l := b.store.Range(k); !slices.Equal(l, want) {
		fail("Range(%d): %v, not %v", k, l, want)
	}
	var digest uint64
	for _, r := range want {
		digest ^= rec.Digest(r)
	}
	if d := b.store.Digest(k); d != digest {
		fail("Digest(%d): %x, not %x", k, d, digest)
	}
	var floor api.Stamp
	if k >= 0 && k < 64 {
		floor = b.model.floors[k]
	}
	if f := b.store.Floor(k); f != floor {
		fail("Floor(%d): %v, not %v", k, f, floor)
	}
}

// neverBackwards goes by what the store answers alone, not by the model.
func (b *both) neverBackwards(fail func(string, ...any)) {
	for _, key := range b.keys {
		r, there := b.store.Peek(key)
		if !there {
			continue
		}
		had, ever := b.had[key]
		if ever && !b.back && stands(r, had) < 0 {
			fail("%s, where it had %s", tell(r), tell(had))
		}
		if !ever || stands(r, had) > 0 {
			b.had[key] = r
		}
	}
}

func tell(r api.Rec) string {
	if len(r.Body) > 40 {
		r.Body = r.Body[:10] + "... of " + strconv.Itoa(len(r.Body))
	}
	if len(r.Key) > 40 {
		r.Key = r.Key[:10] + "... of " + strconv.Itoa(len(r.Key))
	}
	return fmt.Sprintf("%+v", r)
}

// ofRange is so many keys of one range, rising.
func ofRange(k, n int) []string {
	var keys []string
	for i := 0; len(keys) < n; i++ {
		if key := fmt.Sprintf("k%06d", i); mix.Range(key) == k {
			keys = append(keys, key)
		}
	}
	return keys
}

func value(key string, phys uint64, body string) api.Rec {
	return api.Rec{Key: key, Stamp: api.Stamp{Phys: phys}, Kind: api.Value, Body: body}
}

func tomb(key string, phys uint64) api.Rec {
	return api.Rec{Key: key, Stamp: api.Stamp{Phys: phys}, Kind: api.Tomb}
}

func marker(key string, phys uint64) api.Rec {
	return api.Rec{Key: key, Stamp: api.Stamp{Phys: phys}, Kind: api.Marker}
}

// wrong is a good record of a key and, of it, all that may not be.
func wrong(key string) []api.Rec {
	good := api.Rec{Key: key, Stamp: api.Stamp{Phys: 50, Logical: 2, Node: 3}, Kind: api.Value, Flags: 4, Expiry: 60, Body: "b"}
	var l []api.Rec
	change := func(f func(*api.Rec)) {
		r := good
		f(&r)
		l = append(l, r)
	}
	for _, bad := range []string{"", " ", "a b", "a\x7f", "a\x00", "\x1f", strings.Repeat("x", 251)} {
		change(func(r *api.Rec) { r.Key = bad })
	}
	change(func(r *api.Rec) { r.Stamp.Phys = 1 << 48 })
	change(func(r *api.Rec) { r.Stamp.Phys = math.MaxUint64 })
	change(func(r *api.Rec) { r.Stamp.Node = 64 })
	change(func(r *api.Rec) { r.Stamp.Node = 255 })
	change(func(r *api.Rec) { r.Expiry = 1 << 48 })
	change(func(r *api.Rec) { r.Body = strings.Repeat("x", 1025) })
	for _, kind := range []uint8{0, 4, 255} {
		change(func(r *api.Rec) { r.Kind = kind })
		change(func(r *api.Rec) { *r = api.Rec{Key: key, Stamp: r.Stamp, Kind: kind} })
	}
	for _, kind := range []uint8{api.Marker, api.Tomb} {
		change(func(r *api.Rec) { r.Kind = kind })
		change(func(r *api.Rec) { r.Kind, r.Expiry, r.Body = kind, 0, "" })
		change(func(r *api.Rec) { r.Kind, r.Flags, r.Body = kind, 0, "" })
		change(func(r *api.Rec) { r.Kind, r.Flags, r.Expiry = kind, 0, 0 })
	}
	return append(l, api.Rec{})
}

// same tells whether two stores can't be told apart by any call that changes nothing, nor by what they hold.
func same(a, b *Store) bool { return reflect.DeepEqual(a, b) }

// dice draws what tests are made of: always the same, so that a test fails each time or never.
type dice struct{ *rand.Rand }

func newDice(seed uint64) dice { return dice{rand.New(rand.NewPCG(seed, 13))} }

func one[T any](d dice, l ...T) T { return l[d.IntN(len(l))] }
