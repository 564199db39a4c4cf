package sweep

import (
	"encoding/binary"
	"math"
	"math/rand/v2"
	"slices"
	"strings"
	"testing"

	"tattler/api"
)

// weight is a stamp and a kind as bytes whose plain order is theirs.
func weight(s api.Stamp, kind uint8) string {
	b := binary.BigEndian.AppendUint64(nil, s.Phys)
	b = binary.BigEndian.AppendUint32(b, s.Logical)
	return string(append(b, s.Node, kind))
}

func weightOfRec(r api.Rec) string { return weight(r.Stamp, r.Kind) }

func weightOfSeen(s api.Seen) string { return weight(s.Stamp, s.Kind) }

func slowSummary(l []api.Rec) []api.Seen {
	all := make([]api.Seen, len(l))
	for i := range l {
		all[i].Key, all[i].Stamp, all[i].Kind = l[i].Key, l[i].Stamp, l[i].Kind
	}
	return all
}

// slowPush goes through all of theirs for each of mine: it is struck out, if one of its key weighs as much or more. Which of several counts plays no part.
func slowPush(mine []api.Rec, theirs []api.Seen) []api.Rec {
	return slices.DeleteFunc(slices.Clone(mine), func(r api.Rec) bool {
		return slices.ContainsFunc(theirs, func(s api.Seen) bool {
			return s.Key == r.Key && weightOfSeen(s) >= weightOfRec(r)
		})
	})
}

// slowPull goes through all of mine for each of theirs, and puts a key in where it belongs, if none of it weighs as much or more.
func slowPull(mine []api.Rec, theirs []api.Seen) []string {
	var l []string
	for _, s := range theirs {
		if !slices.ContainsFunc(mine, func(r api.Rec) bool { return r.Key == s.Key && weightOfRec(r) >= weightOfSeen(s) }) {
			l = putIn(l, s.Key)
		}
	}
	return l
}

// putIn puts a key in behind all that are less, unless it is there.
func putIn(l []string, key string) []string {
	at := 0
	for at < len(l) && less(l[at], key) {
		at++
	}
	if at < len(l) && l[at] == key {
		return l
	}
	return slices.Insert(l, at, key)
}

// less goes byte by byte; a beginning is less than the whole.
func less(a, b string) bool {
	for i := range min(len(a), len(b)) {
		if a[i] != b[i] {
			return a[i] < b[i]
		}
	}
	return len(a) < len(b)
}

// check lays all that can be asked of a row of records and one of seen ones against the reckoning, and looks that neither has changed.
func check(t *testing.T, mine []api.Rec, theirs []api.Seen) {
	t.Helper()
	mineAhead, theirsAhead := slices.Clone(mine), slices.Clone(theirs)
	if got, want := Summary(mine), slowSummary(mine); !slices.Equal(got, want) {
		t.Fatalf("Summary of %#v: %#v, not %#v", mine, got, want)
	}
	if got, want := Push(mine, theirs), slowPush(mine, theirs); !slices.Equal(got, want) {
		t.Fatalf("Push of %#v, %#v: %#v, not %#v", mine, theirs, got, want)
	}
	if got, want := Pull(mine, theirs), slowPull(mine, theirs); !slices.Equal(got, want) {
		t.Fatalf("Pull of %#v, %#v: %q, not %q", mine, theirs, got, want)
	}
	if !slices.Equal(mine, mineAhead) || !slices.Equal(theirs, theirsAhead) {
		t.Fatalf("%#v, %#v have become %#v, %#v", mineAhead, theirsAhead, mine, theirs)
	}
}

// checkTwo lays two rows of records, from either side, against the reckoning and against P15.2 and P15.3.
func checkTwo(t *testing.T, a, b []api.Rec) {
	t.Helper()
	check(t, a, slowSummary(b))
	check(t, b, slowSummary(a))
	bothWays(t, a, b)
	bothWays(t, b, a)
}

// bothWays is P15.2 and P15.3, by what the program answers alone.
func bothWays(t *testing.T, a, b []api.Rec) {
	t.Helper()
	fromA, fromB := Push(a, Summary(b)), Push(b, Summary(a))
	for _, key := range Pull(a, Summary(b)) {
		if find(fromB, key) < 0 {
			t.Fatalf("of %#v, %#v: the one pulls %q, the other one pushes %#v", a, b, key, fromB)
		}
	}
	newA, newB := given(t, a, fromB), given(t, b, fromA)
	same(t, newA, newB)
	nothingNew(t, newA, newB)
	// One behind the other: what the second one gives is out of what it has by then.
	same(t, newB, given(t, a, Push(newB, Summary(a))))
}

// given is a row into which what was pushed is taken, in place of what it had of these keys.
func given(t *testing.T, l, pushed []api.Rec) []api.Rec {
	t.Helper()
	l = slices.Clone(l)
	for _, r := range pushed {
		at := find(l, r.Key)
		if at < 0 {
			l = append(l, r)
			continue
		}
		if weightOfRec(l[at]) >= weightOfRec(r) {
			t.Fatalf("%#v is pushed to one that has %#v", r, l[at])
		}
		l[at] = r
	}
	return l
}

func find(l []api.Rec, key string) int {
	return slices.IndexFunc(l, func(r api.Rec) bool { return r.Key == key })
}

// same fails unless both have the same stamps and kinds of all keys.
func same(t *testing.T, a, b []api.Rec) {
	t.Helper()
	if x, y := byKey(a), byKey(b); !slices.Equal(x, y) {
		t.Fatalf("the one has %#v, the other one %#v", x, y)
	}
}

func byKey(l []api.Rec) []api.Seen {
	all := slowSummary(l)
	slices.SortFunc(all, func(a, b api.Seen) int { return strings.Compare(a.Key, b.Key) })
	return all
}

// nothingNew is P15.3, of two that have the same.
func nothingNew(t *testing.T, a, b []api.Rec) {
	t.Helper()
	for _, side := range [][2][]api.Rec{{a, b}, {b, a}, {a, a}, {b, b}} {
		if l := Push(side[0], Summary(side[1])); len(l) != 0 {
			t.Fatalf("of %#v, %#v, which are the same: pushed is %#v", side[0], side[1], l)
		}
		if l := Pull(side[0], Summary(side[1])); len(l) != 0 {
			t.Fatalf("of %#v, %#v, which are the same: pulled is %q", side[0], side[1], l)
		}
	}
}

// dice draws what tests are made of: always the same, so that a test fails each time or never.
type dice struct{ *rand.Rand }

func newDice(seed uint64) dice { return dice{rand.New(rand.NewPCG(seed, 15))} }

func one[T any](d dice, l ...T) T { return l[d.IntN(len(l))] }

func shuffled[T any](d dice, l []T) []T {
	l = slices.Clone(l)
	d.Shuffle(len(l), func(i, j int) { l[i], l[j] = l[j], l[i] })
	return l
}

// drawing is of how many keys, numbers of a stamp's parts and kinds it is drawn: 0 is all that there are.
type drawing struct {
	dice
	keys, parts, kinds int
}

func drawings(seed uint64) []drawing {
	var l []drawing
	for _, keys := range []int{1, 3, 20, 0} {
		for _, parts := range []int{1, 2, 4, 0} {
			for _, kinds := range []int{1, 3, 0} {
				l = append(l, drawing{newDice(seed + uint64(len(l))), keys, parts, kinds})
			}
		}
	}
	return l
}

// key of few is one whose beginnings are keys too.
func (d drawing) key() string {
	if d.keys > 0 {
		return strings.Repeat("k", d.IntN(d.keys))
	}
	b := make([]byte, d.IntN(6))
	for i := range b {
		b[i] = one(d.dice, byte(d.IntN(256)), 'a', 0, 127, 128, 255)
	}
	return string(b)
}

func (d drawing) part(most uint64) uint64 {
	if d.parts > 0 {
		return d.Uint64N(uint64(d.parts))
	}
	return one(d.dice, d.Uint64()&most, 0, 1, most/2, most/2+1, most-1, most)
}

func (d drawing) stamp() api.Stamp {
	return api.Stamp{Phys: d.part(math.MaxUint64), Logical: uint32(d.part(math.MaxUint32)), Node: uint8(d.part(math.MaxUint8))}
}

func (d drawing) kind() uint8 {
	if d.kinds > 0 {
		return uint8(1 + d.IntN(d.kinds))
	}
	return one(d.dice, uint8(d.IntN(256)), 0, 1, 2, 3, 4, 127, 128, 255)
}

func (d drawing) seen() api.Seen {
	return api.Seen{Key: d.key(), Stamp: d.stamp(), Kind: d.kind()}
}

func (d drawing) rec() api.Rec {
	s := d.seen()
	return api.Rec{Key: s.Key, Stamp: s.Stamp, Kind: s.Kind, Flags: d.Uint32(), Expiry: d.Uint64(), Body: one(d.dice, "", "x", "body")}
}

// recs is of unlike keys, so there may be fewer.
func (d drawing) recs(most int) []api.Rec {
	var l []api.Rec
	for range most {
		if r := d.rec(); find(l, r.Key) < 0 {
			l = append(l, r)
		}
	}
	return l
}

// likewise is a row that has some of another one's records, others with one thing turned, and some of its own, in any order.
func (d drawing) likewise(l []api.Rec, most int) []api.Rec {
	var all []api.Rec
	for _, r := range l {
		if d.IntN(5) > 0 {
			all = append(all, d.turned(r))
		}
	}
	for _, r := range d.recs(most) {
		if find(all, r.Key) < 0 {
			all = append(all, r)
		}
	}
	return shuffled(d.dice, all)
}

func (d drawing) turned(r api.Rec) api.Rec {
	switch d.IntN(6) {
	case 0:
		r.Stamp.Phys = d.stamp().Phys
	case 1:
		r.Stamp.Logical = d.stamp().Logical
	case 2:
		r.Stamp.Node = d.stamp().Node
	case 3:
		r.Kind = d.kind()
	case 4:
		r.Flags, r.Expiry, r.Body = d.Uint32(), d.Uint64(), "turned"
	}
	return r
}

// several is what is seen of records, some of it more than once, the same or turned, with keys of its own, in any order.
func (d drawing) several(l []api.Rec, most int) []api.Seen {
	var all []api.Seen
	for _, r := range l {
		for range d.IntN(4) {
			all = append(all, slowSummary([]api.Rec{d.turned(r)})...)
		}
	}
	for range most {
		all = append(all, d.seen())
	}
	return shuffled(d.dice, all)
}
