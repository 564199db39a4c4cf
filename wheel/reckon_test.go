package wheel

import (
	"fmt"
	"math"
	"math/rand/v2"
	"slices"
	"testing"
)

// entry is something that was added: an id and its time.
type entry struct {
	id  int
	due uint64
}

// model is a wheel that is reckoned apart from the program: a row of entries, gone through from its beginning to its end for each answer.
type model struct{ entries []entry }

func (m *model) add(id int, due uint64) {
	m.drop(id)
	m.entries = append(m.entries, entry{id, due})
}

func (m *model) drop(id int) bool {
	for i, x := range m.entries {
		if x.id == id {
			m.entries = slices.Delete(m.entries, i, i+1)
			return true
		}
	}
	return false
}

func (m *model) due(now uint64) []int {
	var told, left []entry
	for _, x := range m.entries {
		if x.due > now {
			left = append(left, x)
		} else {
			told = append(told, x)
		}
	}
	m.entries = left
	slices.SortFunc(told, func(a, b entry) int {
		if a.due < b.due || a.due == b.due && a.id < b.id {
			return -1
		}
		return 1
	})
	var ids []int
	for _, x := range told {
		ids = append(ids, x.id)
	}
	return ids
}

func (m *model) next() (uint64, bool) {
	var least uint64
	for i, x := range m.entries {
		if i == 0 || x.due < least {
			least = x.due
		}
	}
	return least, len(m.entries) > 0
}

// call is one of the calls that change a wheel, and what a Due answered.
type call struct {
	kind string // add, drop or due
	id   int
	time uint64
	told []int
}

// both is a wheel beside its model; behind each call all that can be asked is asked of both.
type both struct {
	t     *testing.T
	wheel *Wheel
	model model
	calls []call
}

func newBoth(t *testing.T) *both {
	t.Helper()
	b := &both{t: t, wheel: New()}
	if b.wheel == nil {
		t.Fatal("New: nil")
	}
	b.check("New")
	return b
}

func (b *both) add(id int, due uint64) {
	b.t.Helper()
	b.wheel.Add(id, due)
	b.model.add(id, due)
	b.calls = append(b.calls, call{kind: "add", id: id, time: due})
	b.check(fmt.Sprintf("Add(%d, %d)", id, due))
}

func (b *both) drop(id int) bool {
	b.t.Helper()
	there, want := b.wheel.Drop(id), b.model.drop(id)
	if there != want {
		b.t.Fatalf("Drop(%d): %v, not %v", id, there, want)
	}
	b.calls = append(b.calls, call{kind: "drop", id: id})
	b.check(fmt.Sprintf("Drop(%d)", id))
	return there
}

func (b *both) due(now uint64) []int {
	b.t.Helper()
	told, want := b.wheel.Due(now), b.model.due(now)
	if !slices.Equal(told, want) {
		b.t.Fatalf("Due(%d): %d, not %d", now, told, want)
	}
	b.calls = append(b.calls, call{kind: "due", time: now, told: told})
	b.check(fmt.Sprintf("Due(%d)", now))
	return told
}

func (b *both) check(behind string) {
	b.t.Helper()
	next, some := b.wheel.Next()
	if want, wantSome := b.model.next(); next != want || some != wantSome {
		b.t.Fatalf("behind %s: Next is %d, %v, not %d, %v", behind, next, some, want, wantSome)
	}
	if n := b.wheel.Len(); n != len(b.model.entries) {
		b.t.Fatalf("behind %s: Len is %d, not %d", behind, n, len(b.model.entries))
	}
}

// telling is one that a Due told: by which call, and which id.
type telling struct{ call, id int }

// onceInTime goes by the row of calls alone, not by the model: from each Add on, up to what ends its entry, to find the one Due that may tell it; nothing else may be told, and each Due rises.
func (b *both) onceInTime() {
	b.t.Helper()
	owed := map[telling]uint64{}
	for i, c := range b.calls {
		if c.kind != "add" {
			continue
		}
		if end := b.endOf(i); end < len(b.calls) && b.calls[end].kind == "due" {
			owed[telling{end, c.id}] = c.time
		}
	}
	for i, c := range b.calls {
		var last entry
		for k, id := range c.told {
			time, is := owed[telling{i, id}]
			if !is {
				b.t.Fatalf("call %d, Due(%d), tells %d, which isn't its own, or twice", i, c.time, id)
			}
			if k > 0 && (time < last.due || time == last.due && id <= last.id) {
				b.t.Fatalf("call %d, Due(%d): %d of time %d stands behind %d of time %d", i, c.time, id, time, last.id, last.due)
			}
			last = entry{id, time}
			delete(owed, telling{i, id})
		}
	}
	if len(owed) > 0 {
		b.t.Fatalf("never told: %v", owed)
	}
}

// endOf is the first call behind an Add that adds the same anew, drops it, or has to tell it; beyond all, if there is none.
func (b *both) endOf(add int) int {
	for i := add + 1; i < len(b.calls); i++ {
		c := b.calls[i]
		if c.kind == "due" && c.time >= b.calls[add].time || c.kind != "due" && c.id == b.calls[add].id {
			return i
		}
	}
	return len(b.calls)
}

// edgeTimes are those at which a wheel of 64 buckets, or a number of 32 or of 64 bits, may go wrong.
func edgeTimes() []uint64 {
	return []uint64{0, 1, 2, 62, 63, 64, 65, 66, 127, 128, 129, 4095, 4096, 4097,
		math.MaxInt32, math.MaxUint32 - 1, math.MaxUint32, math.MaxUint32 + 1, math.MaxUint32 + 2,
		math.MaxInt64 - 1, math.MaxInt64, math.MaxInt64 + 1, math.MaxInt64 + 2, math.MaxUint64 - 64, math.MaxUint64 - 63, math.MaxUint64 - 1, math.MaxUint64}
}

func edgeIDs() []int {
	return []int{math.MinInt, math.MinInt + 1, math.MinInt32, -65, -64, -2, -1, 0, 1, 2, 63, 64, 65, 128, math.MaxInt32, math.MaxUint32, math.MaxUint32 + 1, math.MaxInt - 1, math.MaxInt}
}

// dice draws what tests are made of: always the same, so that a test fails each time or never.
type dice struct{ *rand.Rand }

func newDice(seed uint64) dice { return dice{rand.New(rand.NewPCG(seed, 12))} }

func one[T any](d dice, l ...T) T { return l[d.IntN(len(l))] }
