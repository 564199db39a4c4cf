package count

import (
	"math/big"
	"slices"
	"strings"
	"testing"

	"tattler/api"
)

// P23.1: every row of five out of these calls, to two counts and to one that there isn't.
func TestShortRows(t *testing.T) {
	calls := []func(b *both){
		func(b *both) { b.add("a", 0) },
		func(b *both) { b.add("a", 1) },
		func(b *both) { b.add("a", 1<<63) },
		func(b *both) { b.add("a", top-1) },
		func(b *both) { b.add("a", top) },
		func(b *both) { b.add("b", 1) },
		func(b *both) { b.add("b", top) },
		func(b *both) { b.add("c", 1) },
		func(b *both) { b.reset() },
	}
	long := 5
	if testing.Short() {
		long = 3
	}
	row := make([]int, long)
	for {
		b := newBoth(t, "b", "a")
		for _, call := range row {
			calls[call](b)
		}
		at := 0
		for at < long && row[at] == len(calls)-1 {
			row[at] = 0
			at++
		}
		if at == long {
			return
		}
		row[at]++
	}
}

// reach is how often the drawn rows came to what they are for.
type reach struct{ added, refused, full, stays, never, again int }

// drawnCall is a call like those that were drawn before it, but of names that there are more often.
func (b *both) drawnCall(d dice, small bool, r *reach) {
	b.t.Helper()
	name := one(d, b.model.names...)
	switch p := d.IntN(100); {
	case p < 70:
		b.drawnAdd(d, name, small, r)
	case p < 78:
		b.get(name)
	case p < 84:
		b.drawnNone(d, r)
	case p < 92:
		b.all()
	default:
		if sum := b.sum(); sum == 0 {
			r.again++
		}
		b.reset()
	}
}

// sum tells whether anything was added since the last Reset.
func (b *both) sum() uint64 {
	for _, n := range b.model.given {
		if n.Sign() > 0 {
			return 1
		}
	}
	return 0
}

func (b *both) drawnAdd(d dice, name string, small bool, r *reach) {
	b.t.Helper()
	n := d.number()
	if left := top - b.model.get(name); d.IntN(6) == 0 {
		n = left + uint64(d.IntN(5)) - 2 // just at the bound
	}
	if of := b.tally[name]; small {
		// P23.3 speaks of what is below 2^64 in all: so much may still be added.
		left := new(big.Int).Sub(beyond, &of.added)
		left.Sub(left, big.NewInt(1))
		if new(big.Int).SetUint64(n).Cmp(left) > 0 {
			n = left.Uint64()
			r.never++
		}
	}
	was := b.model.get(name)
	b.add(name, n)
	r.added++
	if now := b.model.get(name); was < top && now == top {
		r.full++
	} else if was == top && n > 0 {
		r.stays++
	}
}

// drawnNone asks for names that there are none of, close to some that there are.
func (b *both) drawnNone(d dice, r *reach) {
	b.t.Helper()
	name := one(d, b.model.names...)
	switch d.IntN(5) {
	case 0:
		name = name[:len(name)-1]
	case 1:
		name += string([]byte{byte(d.IntN(256))})
	case 2:
		name = strings.ToUpper(name)
	case 3:
		name = ""
	case 4:
		name = d.name()
	}
	if b.model.at(name) < 0 {
		r.refused++
	}
	b.add(name, d.number())
	b.get(name)
}

// P23.1, P23.2 and P23.3: drawn rows of calls, each held against the reckoning and against what the Counts themselves answered.
func TestDrawnRows(t *testing.T) {
	var r reach
	rows := 6000
	if testing.Short() {
		rows = 600
	}
	for row := range rows {
		d := newDice(uint64(row))
		b := newBoth(t, d.names(one(d, 1, 2, 3, 12))...)
		for range 1 + d.IntN(60) {
			b.drawnCall(d, row%2 == 0, &r)
		}
	}
	least := min(r.added/40, r.refused, r.full*4, r.stays*4, r.never*4, r.again*8)
	if least < rows/4 {
		t.Fatalf("the rows tell little: %+v", r)
	}
}

// P23.1: New of drawn rows of names out of few, so that many are twice or empty, against the reckoning; where there may be counts they are just these.
func TestDrawnNames(t *testing.T) {
	var fine, wrong int
	for seed := range uint64(40000) {
		d := newDice(seed)
		names := make([]string, d.IntN(9))
		for i := range names {
			names[i] = one(d, odd...)
			if d.IntN(40) == 0 {
				names[i] = ""
			}
		}
		was := slices.Clone(names)
		c, e := New(names)
		m := newModel(names)
		if !slices.Equal(names, was) {
			t.Fatalf("%q became %q", was, names)
		}
		if m == nil {
			wrong++
			if c != nil || e != api.ErrArg {
				t.Fatalf("New(%q): %v, %d", names, c, e)
			}
			continue
		}
		fine++
		if c == nil || e != api.OK || !slices.Equal(c.All(), m.all()) {
			t.Fatalf("New(%q): %v, %d", names, c, e)
		}
	}
	if fine < 5000 || wrong < 5000 {
		t.Fatalf("the rows tell little: %d, %d", fine, wrong)
	}
}

// P23.1, R2: several Counts side by side, of one or of unlike names: none changes another one, and what was made alike and handed the same answers the same.
func TestDrawnSideBySide(t *testing.T) {
	var r reach
	for seed := range uint64(400) {
		d := newDice(seed)
		names := d.names(6)
		all := []*both{newBoth(t, names...), newBoth(t, names...), newBoth(t, d.names(6)...), newBoth(t, backwards(names)...)}
		for range 60 {
			one(d, all...).drawnCall(d, false, &r)
			for _, b := range all {
				b.check(false)
			}
		}
		twin := newBoth(t, names...)
		for i, name := range all[0].model.names {
			if n := shown(all[0].model.given[i]); !twin.add(name, n) {
				t.Fatal(name)
			}
		}
		if a, b := twin.counts.All(), all[0].counts.All(); !slices.Equal(a, b) {
			t.Fatalf("%s: %v, but %v", all[0].calls, a, b)
		}
	}
}

func backwards(l []string) []string {
	l = slices.Clone(l)
	slices.Reverse(l)
	return l
}
