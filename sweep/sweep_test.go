package sweep

import (
	"fmt"
	"math"
	"slices"
	"strings"
	"testing"
	"unsafe"

	"tattler/api"
)

// at is the stamp of a time alone.
func at(phys uint64) api.Stamp { return api.Stamp{Phys: phys} }

func tomb(key string, phys uint64) api.Rec {
	return api.Rec{Key: key, Stamp: at(phys), Kind: api.Tomb}
}

func value(key string, phys uint64, body string) api.Rec {
	return api.Rec{Key: key, Stamp: at(phys), Kind: api.Value, Flags: 7, Expiry: 99, Body: body}
}

func sight(key string, phys uint64, kind uint8) api.Seen {
	return api.Seen{Key: key, Stamp: at(phys), Kind: kind}
}

// expectPush lays Push against what was reckoned by hand.
func expectPush(t *testing.T, mine []api.Rec, theirs []api.Seen, want ...api.Rec) {
	t.Helper()
	check(t, mine, theirs)
	if l := Push(mine, theirs); !slices.Equal(l, want) {
		t.Fatalf("Push of %#v, %#v: %#v, not %#v", mine, theirs, l, want)
	}
}

// expectPull likewise.
func expectPull(t *testing.T, mine []api.Rec, theirs []api.Seen, want ...string) {
	t.Helper()
	check(t, mine, theirs)
	if l := Pull(mine, theirs); !slices.Equal(l, want) {
		t.Fatalf("Pull of %#v, %#v: %q, not %q", mine, theirs, l, want)
	}
}

// P15.1: the chapter's example.
func TestExample(t *testing.T) {
	for kind := range uint8(4) {
		mine := []api.Rec{{Key: "a", Stamp: at(2), Kind: kind}}
		theirs := []api.Seen{sight("a", 1, kind), sight("b", 5, kind)}
		expectPush(t, mine, theirs, mine[0])
		expectPull(t, mine, theirs, "b")
	}
}

// The reckoning itself: what it is made of is told by hand.
func TestReckoning(t *testing.T) {
	stamps := []api.Stamp{{}, {Node: 1}, {Node: 255}, {Logical: 1}, {Logical: 256}, {Logical: 1 << 24, Node: 3}, {Phys: 1}, {Phys: 256}, {Phys: math.MaxUint64}}
	for i, a := range stamps {
		for j, b := range stamps {
			if (weight(a, 255) < weight(b, 0)) != (i < j) {
				t.Errorf("%#v, %#v", a, b)
			}
			if (weight(a, 1) < weight(b, 2)) != (i <= j) {
				t.Errorf("%#v, %#v, of two kinds", a, b)
			}
		}
	}
	keys := []string{"", "\x00", "\x00\x00", "\x00a", "a", "a\x00", "aa", "b", "\x7f", "\x80", "\xff"}
	for i, a := range keys {
		for j, b := range keys {
			if less(a, b) != (i < j) {
				t.Errorf("%q, %q", a, b)
			}
		}
	}
}

// P15.1: Summary of none, of one and of many, in the order in which they stand.
func TestSummary(t *testing.T) {
	for _, none := range [][]api.Rec{nil, {}, make([]api.Rec, 0, 5)} {
		if l := Summary(none); len(l) != 0 {
			t.Errorf("Summary of none: %#v", l)
		}
	}
	b := api.Rec{Key: "b", Stamp: api.Stamp{Phys: 1, Logical: 2, Node: 3}, Kind: api.Value, Flags: 4, Expiry: 5, Body: "body"}
	want := api.Seen{Key: "b", Stamp: api.Stamp{Phys: 1, Logical: 2, Node: 3}, Kind: api.Value}
	if l := Summary([]api.Rec{b}); !slices.Equal(l, []api.Seen{want}) {
		t.Errorf("Summary of one: %#v", l)
	}
	got := Summary([]api.Rec{tomb("z", 3), b, tomb("", 1), {Key: "a", Stamp: at(9), Kind: api.Marker}})
	if !slices.Equal(got, []api.Seen{sight("z", 3, api.Tomb), want, sight("", 1, api.Tomb), sight("a", 9, api.Marker)}) {
		t.Errorf("Summary of four: %#v", got)
	}
	many := drawing{dice: newDice(1)}.recs(500)
	check(t, many, nil)
	slices.Reverse(many)
	check(t, many, nil)
}

// P15.1: Summary tells records just as they are, such as may not be among them.
func TestSummaryOfStrange(t *testing.T) {
	last := api.Stamp{Phys: math.MaxUint64, Logical: math.MaxUint32, Node: math.MaxUint8}
	strange := []api.Rec{{}, {Key: strings.Repeat("k", 1000), Stamp: last, Kind: 255}, {Key: "a b\x00\xff", Kind: 4, Body: strings.Repeat("x", 5000)}}
	want := []api.Seen{{}, {Key: strange[1].Key, Stamp: last, Kind: 255}, {Key: "a b\x00\xff", Kind: 4}}
	if l := Summary(strange); !slices.Equal(l, want) {
		t.Errorf("Summary: %#v", l)
	}
	check(t, strange, want)
	check(t, strange, want[1:])
	check(t, strange[1:], want)
	check(t, nil, want)
	check(t, strange, nil)
}

// P15.1: where mine is empty, nothing is pushed and all is pulled; where theirs is, the other way; where both are, nothing.
func TestEmpty(t *testing.T) {
	mine := []api.Rec{value("c", 1, "x"), tomb("a", 2), {}}
	theirs := []api.Seen{sight("y", 1, api.Value), sight("x", 2, api.Tomb), {}}
	for _, none := range [][]api.Rec{nil, {}, mine[:0]} {
		expectPush(t, none, theirs)
		expectPull(t, none, theirs, "", "x", "y")
		for _, nothing := range [][]api.Seen{nil, {}, theirs[:0]} {
			expectPush(t, none, nothing)
			expectPull(t, none, nothing)
			expectPush(t, mine, nothing, mine...)
			expectPull(t, mine, nothing)
		}
	}
}

// P15.1: a record, and a seen one, whose fields are all zero is there all the same.
func TestNoughts(t *testing.T) {
	expectPush(t, []api.Rec{{}}, []api.Seen{{}})
	expectPull(t, []api.Rec{{}}, []api.Seen{{}})
	expectPush(t, []api.Rec{{Key: "a"}}, []api.Seen{{}}, api.Rec{Key: "a"})
	expectPull(t, []api.Rec{{Key: "a"}}, []api.Seen{{}}, "")
	expectPush(t, []api.Rec{{}}, []api.Seen{{Key: "a"}}, api.Rec{})
	expectPull(t, []api.Rec{{}}, []api.Seen{{Key: "a"}}, "a")
	expectPush(t, []api.Rec{{}}, nil, api.Rec{})
	expectPull(t, nil, []api.Seen{{}}, "")
}

// expectLess lays a key's two stamps and kinds, of which the first one is less, against each other: as mine and theirs, and as theirs and mine.
func expectLess(t *testing.T, a, b api.Seen) {
	t.Helper()
	a.Key, b.Key = "k", "k"
	less := api.Rec{Key: "k", Stamp: a.Stamp, Kind: a.Kind, Flags: 9, Expiry: 9, Body: "z"}
	more := api.Rec{Key: "k", Stamp: b.Stamp, Kind: b.Kind}
	expectPush(t, []api.Rec{less}, []api.Seen{b})
	expectPull(t, []api.Rec{less}, []api.Seen{b}, "k")
	expectPush(t, []api.Rec{more}, []api.Seen{a}, more)
	expectPull(t, []api.Rec{more}, []api.Seen{a})
	expectPush(t, []api.Rec{less}, []api.Seen{a})
	expectPull(t, []api.Rec{less}, []api.Seen{a})
}

// P15.1: of one key: a stamp that stands ahead in one of its parts alone, and a Kind that is less at one stamp; whatever stands in the parts behind these.
func TestOneKey(t *testing.T) {
	parts := []func(s *api.Seen, high bool){
		func(s *api.Seen, high bool) { s.Stamp.Phys = pick(high, 5, 6) },
		func(s *api.Seen, high bool) { s.Stamp.Logical = uint32(pick(high, 5, 6)) },
		func(s *api.Seen, high bool) { s.Stamp.Node = uint8(pick(high, 5, 6)) },
		func(s *api.Seen, high bool) { s.Kind = uint8(pick(high, api.Tomb, api.Value)) },
	}
	for i := range parts {
		// All of the parts behind the one that counts say otherwise, the same, or likewise.
		for turn := range 3 {
			var a, b api.Seen
			for j, part := range parts {
				part(&a, j > i && turn == 0)
				part(&b, j == i || j > i && turn == 2)
			}
			expectLess(t, a, b)
		}
	}
}

func pick(high bool, x, y uint64) uint64 {
	if high {
		return y
	}
	return x
}

// P15.1: the same, at the edges of what the parts may be.
func TestOneKeyEdges(t *testing.T) {
	for _, s := range [][2]api.Stamp{
		{at(0), at(1)},
		{at(1<<32 - 1), at(1 << 32)},
		{at(api.MaxTime - 1), at(api.MaxTime)},
		{at(api.MaxTime), at(api.MaxTime + 1)},
		{at(1<<63 - 1), at(1 << 63)},
		{at(0), at(math.MaxUint64)},
		{{Phys: 4, Logical: math.MaxUint32, Node: 255}, at(5)},
		{{Phys: 4, Logical: 1<<31 - 1}, {Phys: 4, Logical: 1 << 31}},
		{{Phys: 4, Logical: 0, Node: 255}, {Phys: 4, Logical: 1}},
		{{Phys: 4}, {Phys: 4, Logical: math.MaxUint32}},
		{{Phys: 4, Node: 0}, {Phys: 4, Node: 1}},
		{{Phys: 4, Node: 63}, {Phys: 4, Node: 64}},
		{{Phys: 4, Node: 127}, {Phys: 4, Node: 128}},
		{{Phys: 4, Node: 0}, {Phys: 4, Node: 255}},
	} {
		for _, kinds := range [][2]uint8{{1, 1}, {1, 3}, {3, 1}, {0, 255}, {255, 0}} {
			expectLess(t, api.Seen{Stamp: s[0], Kind: kinds[0]}, api.Seen{Stamp: s[1], Kind: kinds[1]})
		}
	}
	for a := range 256 {
		for b := a + 1; b < 256; b++ {
			expectLess(t, api.Seen{Stamp: at(4), Kind: uint8(a)}, api.Seen{Stamp: at(4), Kind: uint8(b)})
		}
	}
}

// fewSights is all seen ones of a key, of few numbers, by rising stamps and kinds.
func fewSights(key string, parts uint64, kinds ...uint8) []api.Seen {
	var l []api.Seen
	for n := range parts * parts * parts {
		s := api.Stamp{Phys: n / parts / parts, Logical: uint32(n / parts % parts), Node: uint8(n % parts)}
		for _, kind := range kinds {
			l = append(l, api.Seen{Key: key, Stamp: s, Kind: kind})
		}
	}
	return l
}

// recOf is a record of which that is seen.
func recOf(s api.Seen) api.Rec {
	return api.Rec{Key: s.Key, Stamp: s.Stamp, Kind: s.Kind, Flags: 1, Expiry: 2, Body: "x"}
}

// expectOne lays one record against several seen ones of its key; most is the place of the one that counts, mine that of the record.
func expectOne(t *testing.T, r api.Rec, theirs []api.Seen, mine, most int) {
	t.Helper()
	var push []api.Rec
	var pull []string
	if most < mine {
		push = []api.Rec{r}
	}
	if most > mine {
		pull = []string{r.Key}
	}
	expectPush(t, []api.Rec{r}, theirs, push...)
	expectPull(t, []api.Rec{r}, theirs, pull...)
	expectPull(t, nil, theirs, r.Key)
}

// P15.1: one key, each two of all stamps and kinds of few numbers.
func TestEachTwo(t *testing.T) {
	l := fewSights("k", 3, api.Marker, api.Tomb, api.Value)
	for i, a := range l {
		for j, b := range l {
			expectOne(t, recOf(a), []api.Seen{b}, i, j)
		}
	}
}

// P15.1: of two and three seen ones of a key, in each order, the one that isn't behind any other one's stamp and kind counts.
func TestSeveralSeen(t *testing.T) {
	l := fewSights("k", 2, api.Tomb, api.Value)
	for i, a := range l {
		for j, b := range l {
			for k := range l {
				expectOne(t, recOf(l[k]), []api.Seen{a, b}, k, max(i, j))
			}
			for k, c := range l {
				mine := (i + j + k) % len(l)
				expectOne(t, recOf(l[mine]), []api.Seen{a, b, c}, mine, max(i, j, k))
			}
		}
	}
}

// P15.1: the same, of one stamp and unlike Kinds, in each order of four.
func TestSeveralKinds(t *testing.T) {
	l := fewSights("k", 1, 0, api.Marker, api.Tomb, api.Value, 4)
	for n := range 5 * 5 * 5 * 5 {
		places := []int{n % 5, n / 5 % 5, n / 25 % 5, n / 125}
		var theirs []api.Seen
		for _, i := range places {
			theirs = append(theirs, l[i])
		}
		for k := range l {
			expectOne(t, recOf(l[k]), theirs, k, slices.Max(places))
		}
	}
}

// P15.1: what is seen of one key is nothing to another one, also where they stand by turns.
func TestSeveralKeys(t *testing.T) {
	mine := []api.Rec{value("a", 5, "x"), value("b", 5, "y"), value("aa", 5, "z")}
	theirs := []api.Seen{sight("b", 4, 3), sight("a", 6, 1), sight("aa", 5, 2), sight("b", 5, 2), sight("a", 1, 3), sight("c", 1, 1), sight("aa", 5, 3), sight("b", 3, 1)}
	expectPush(t, mine, theirs, mine[1])
	expectPull(t, mine, theirs, "a", "c")
	d := newDice(2)
	for range 100 {
		theirs = shuffled(d, theirs)
		expectPush(t, mine, theirs, mine[1])
		expectPull(t, mine, theirs, "a", "c")
	}
}

// P15.1: a key of theirs that stands twice and more often is pulled once.
func TestPulledOnce(t *testing.T) {
	for _, times := range []int{1, 2, 3, 10, 1000} {
		same := slices.Repeat([]api.Seen{sight("a", 5, 3)}, times)
		expectPull(t, nil, same, "a")
		expectPull(t, []api.Rec{tomb("a", 4)}, same, "a")
		expectPull(t, []api.Rec{value("a", 5, "x")}, same)
		expectPush(t, []api.Rec{value("a", 5, "x")}, same)
		expectPush(t, []api.Rec{value("a", 6, "x")}, same, value("a", 6, "x"))
		var rising []api.Seen
		for i := range times {
			rising = append(rising, sight("a", uint64(i), 3), sight("b", uint64(i), 3))
		}
		expectPull(t, nil, rising, "a", "b")
		expectPull(t, []api.Rec{tomb("b", uint64(times))}, rising, "a")
		slices.Reverse(rising)
		expectPull(t, nil, rising, "a", "b")
		expectPull(t, []api.Rec{value("a", uint64(times)-1, "x"), tomb("b", 0)}, rising, "b")
	}
}

// risingKeys is keys of which some begin others, by rising bytes.
func risingKeys() []string {
	return []string{"", "\x00", "\x00\x00", " ", "0", "10", "9", "A", "Z", "a", "a\x00", "aa", "aaa", "ab", "a\x7f", "a\x80", "a\xff", "b", "k1", "k10", "k2", "z", "\x7f", "\x80", "\xc3", "\xc3\xa4", "\xc3\xa4a", "\xe2\x82\xac", "\xff", "\xff\x00", "\xff\xff"}
}

// P15.1: Pull's keys rise, whatever order theirs stand in.
func TestPullRises(t *testing.T) {
	keys := risingKeys()
	var theirs []api.Seen
	for _, key := range keys {
		theirs = append(theirs, sight(key, 1, 1))
	}
	expectPull(t, nil, theirs, keys...)
	slices.Reverse(theirs)
	expectPull(t, nil, theirs, keys...)
	d := newDice(3)
	for range 200 {
		theirs = shuffled(d, theirs)
		expectPull(t, nil, theirs, keys...)
		var mine []api.Rec
		var rest []string
		for _, key := range keys {
			if d.IntN(2) == 0 {
				mine = append(mine, tomb(key, 1))
			} else {
				rest = append(rest, key)
			}
		}
		expectPull(t, shuffled(d, mine), theirs, rest...)
	}
}

// P15.1: Push's records stand in the order in which mine stand, whole, whatever order theirs stand in.
func TestPushOrder(t *testing.T) {
	d := newDice(4)
	for range 200 {
		var mine, want []api.Rec
		var theirs []api.Seen
		for i, key := range shuffled(d, risingKeys()) {
			r := api.Rec{Key: key, Stamp: at(5), Kind: api.Value, Flags: d.Uint32(), Expiry: d.Uint64(), Body: fmt.Sprint("body ", i)}
			mine = append(mine, r)
			if d.IntN(2) == 0 {
				theirs = append(theirs, sight(key, 5, api.Value))
				continue
			}
			want = append(want, r)
			if d.IntN(2) == 0 {
				theirs = append(theirs, sight(key, 4, api.Value))
			}
		}
		expectPush(t, mine, shuffled(d, theirs), want...)
	}
}

// P15.1: Flags, Expiry and Body go with a record, and aren't seen: by these alone nothing is pushed.
func TestContentIsNotSeen(t *testing.T) {
	full := api.Rec{Key: "a", Stamp: at(5), Kind: api.Value, Flags: math.MaxUint32, Expiry: math.MaxUint64, Body: strings.Repeat("\x00\xff", 2000)}
	bare := api.Rec{Key: "a", Stamp: at(5), Kind: api.Value}
	expectPush(t, []api.Rec{full}, nil, full)
	expectPush(t, []api.Rec{full}, []api.Seen{sight("a", 5, api.Tomb)}, full)
	expectPush(t, []api.Rec{bare}, []api.Seen{sight("a", 5, api.Tomb)}, bare)
	checkTwo(t, []api.Rec{full}, []api.Rec{bare})
	nothingNew(t, []api.Rec{full}, []api.Rec{bare})
}

// P15.1: long rows, all the same, all ahead, all behind, all unlike.
func TestLongRows(t *testing.T) {
	const n = 20000
	var mine []api.Rec
	var theirs []api.Seen
	var keys []string
	for i := range n {
		keys = append(keys, fmt.Sprintf("%06d", i))
		mine = append(mine, value(keys[i], 5, "x"))
		theirs = append(theirs, sight(keys[i], 5, api.Value))
	}
	expect := func(push []api.Rec, pull []string) {
		t.Helper()
		if l := Push(mine, theirs); !slices.Equal(l, push) {
			t.Errorf("Push: %d, not %d", len(l), len(push))
		}
		if l := Pull(mine, theirs); !slices.Equal(l, pull) {
			t.Errorf("Pull: %d, not %d", len(l), len(pull))
		}
	}
	expect(nil, nil)
	slices.Reverse(theirs)
	expect(nil, nil)
	for i := range theirs {
		theirs[i].Stamp.Phys = 4
	}
	expect(mine, nil)
	for i := range theirs {
		theirs[i].Stamp.Phys = 6
	}
	expect(nil, keys)
	for i := range theirs {
		theirs[i].Key += "x"
		keys[i] += "x"
	}
	expect(mine, keys)
	if l := Summary(mine); !slices.Equal(l, slowSummary(mine)) {
		t.Errorf("Summary: %d", len(l))
	}
}

// P15.1: rows of one record a key beside any seen ones, drawn from few and from many, against the reckoning.
func TestDrawnRows(t *testing.T) {
	for _, d := range drawings(100) {
		for range 300 {
			mine := d.recs(d.IntN(30))
			check(t, mine, d.several(mine, d.IntN(20)))
			check(t, mine, d.several(nil, d.IntN(20)))
			check(t, nil, d.several(mine, d.IntN(20)))
		}
	}
}

// P15.2, P15.3: pairs of rows, drawn from few and from many: what they tell each other is all that they have to.
func TestDrawnPairs(t *testing.T) {
	for _, d := range drawings(200) {
		for range 200 {
			a := d.recs(d.IntN(30))
			checkTwo(t, a, d.likewise(a, d.IntN(15)))
			checkTwo(t, a, d.recs(d.IntN(30)))
		}
	}
}

// P15.2: the same, of each two that have few keys at few stamps and kinds.
func TestEachPair(t *testing.T) {
	var rows [][]api.Rec
	choices := append(fewSights("", 1, 1, 3), api.Seen{Stamp: at(1), Kind: 2})
	for n := range 4 * 4 * 4 {
		var l []api.Rec
		for i, key := range []string{"", "a", "aa"} {
			if k := n >> (2 * i) & 3; k < 3 {
				l = append(l, api.Rec{Key: key, Stamp: choices[k].Stamp, Kind: choices[k].Kind})
			}
		}
		rows = append(rows, l)
	}
	for _, a := range rows {
		for _, b := range rows {
			checkTwo(t, a, b)
		}
	}
}

// P15.2: two that have nothing of each other's.
func TestBothWays(t *testing.T) {
	a := []api.Rec{value("a", 1, "x"), value("b", 2, "y"), tomb("c", 5)}
	b := []api.Rec{tomb("d", 1), tomb("b", 2), value("c", 5, "z"), value("", 7, "w")}
	checkTwo(t, a, b)
	expectPush(t, a, Summary(b), a[0], a[1])
	expectPull(t, b, Summary(a), "a", "b")
	expectPush(t, b, Summary(a), b[0], b[2], b[3])
	expectPull(t, a, Summary(b), "", "c", "d")
	checkTwo(t, a, nil)
	checkTwo(t, nil, nil)
}

// P15.3: of two that have the same, in whatever order their records stand, nothing is pushed and nothing pulled; nor if the one has seen twice what the other one has.
func TestNothingNew(t *testing.T) {
	for _, d := range drawings(300) {
		for range 100 {
			a := d.recs(d.IntN(40))
			b := shuffled(d.dice, a)
			nothingNew(t, a, b)
			theirs := shuffled(d.dice, slices.Concat(Summary(b), Summary(a)))
			expectPush(t, a, theirs)
			expectPull(t, a, theirs)
		}
	}
}

// P15.3: one thing turned in one of many, and there is something new, of this key alone.
func TestOneNew(t *testing.T) {
	d := drawing{dice: newDice(5)}
	a := d.recs(40)
	for i := range a {
		for _, r := range []api.Rec{recOf(api.Seen{Key: a[i].Key, Stamp: a[i].Stamp, Kind: a[i].Kind ^ 1}), {Key: a[i].Key, Stamp: at(a[i].Stamp.Phys ^ 1), Kind: 2}} {
			b := slices.Clone(a)
			b[i] = r
			checkTwo(t, a, b)
			if n := len(Push(a, Summary(b))) + len(Push(b, Summary(a))); n != 1 {
				t.Errorf("%#v and %#v: %d are pushed", a[i], r, n)
			}
			if n := len(Pull(a, Summary(b))) + len(Pull(b, Summary(a))); n != 1 {
				t.Errorf("%#v and %#v: %d are pulled", a[i], r, n)
			}
		}
	}
}

// R2: asked again, each call answers the same, whatever else was asked between.
func TestAskedAgain(t *testing.T) {
	d := drawing{dice: newDice(6)}
	mine := d.recs(60)
	theirs := d.several(mine, 60)
	push, pull, all := Push(mine, theirs), Pull(mine, theirs), Summary(mine)
	for range 100 {
		Push(d.recs(5), theirs)
		Pull(d.recs(5), theirs)
		if !slices.Equal(Push(mine, theirs), push) || !slices.Equal(Pull(mine, theirs), pull) || !slices.Equal(Summary(mine), all) {
			t.Fatal("an answer isn't the one of before")
		}
	}
}

// R1: a key that mine have twice is none of what the chapter speaks of; each call ends all the same.
func TestMineTwice(t *testing.T) {
	mine := []api.Rec{value("a", 1, "x"), value("a", 3, "y"), value("a", 2, "z"), value("a", 3, "y")}
	for phys := range uint64(5) {
		theirs := []api.Seen{sight("a", phys, 3), sight("a", phys, 2)}
		Push(mine, theirs)
		Pull(mine, theirs)
		Push(mine, Summary(mine))
		Pull(mine, Summary(mine))
	}
}

// R3: what is handed in stays as it is, its spare room too, and plays no part beyond its length.
func TestHandedIn(t *testing.T) {
	d := drawing{dice: newDice(7)}
	for _, n := range []int{0, 1, 2, 7, 40} {
		mineRoom := d.recs(100)
		theirsRoom := d.several(mineRoom, 100)
		mineAhead, theirsAhead := slices.Clone(mineRoom), slices.Clone(theirsRoom)
		mine, theirs := mineRoom[:n], theirsRoom[:n]
		check(t, mine, theirs)
		if !slices.Equal(mineRoom, mineAhead) || !slices.Equal(theirsRoom, theirsAhead) {
			t.Fatalf("of %d: what was handed in has changed", n)
		}
	}
}

// spoil overwrites a list, its spare room too.
func spoil[T any](l []T, x T) {
	room := l[:cap(l)]
	for i := range room {
		room[i] = x
	}
}

// R3: what was answered may be changed, its spare room too, without a change of what was handed in, or of another answer; and what was handed in without a change of what was answered.
func TestAnswersStandApart(t *testing.T) {
	d := drawing{dice: newDice(8)}
	for _, n := range []int{0, 1, 2, 3, 5, 17, 100} {
		mine := d.recs(n)
		theirs := d.several(mine, n)
		for range 2 {
			mineAhead, theirsAhead := slices.Clone(mine), slices.Clone(theirs)
			push, pull, all := Push(mine, theirs), Pull(mine, theirs), Summary(mine)
			spoil(Push(mine, theirs), value("spoilt", 1, "spoilt"))
			spoil(Push(mine, nil), value("spoilt", 1, "spoilt"))
			spoil(Pull(mine, theirs), "spoilt")
			spoil(Summary(mine), sight("spoilt", 1, 1))
			if !slices.Equal(mine, mineAhead) || !slices.Equal(theirs, theirsAhead) {
				t.Fatalf("of %d: what was handed in has changed with an answer", n)
			}
			if !slices.Equal(push, slowPush(mine, theirs)) || !slices.Equal(pull, slowPull(mine, theirs)) || !slices.Equal(all, slowSummary(mine)) {
				t.Fatalf("of %d: two answers share memory", n)
			}
			spoil(mine, value("other", 1, "other"))
			spoil(theirs, sight("other", 1, 1))
			if !slices.Equal(push, slowPush(mineAhead, theirsAhead)) || !slices.Equal(pull, slowPull(mineAhead, theirsAhead)) || !slices.Equal(all, slowSummary(mineAhead)) {
				t.Fatalf("of %d: an answer has changed with what was handed in", n)
			}
			mine, theirs = mineAhead, theirsAhead
		}
	}
}

// R3: keys and bodies share memory with nothing that was handed in, nor with another answer.
func TestTextsStandApart(t *testing.T) {
	memory := []byte("mine" + "body" + "theirs")
	part := func(from, to int) string { return unsafe.String(&memory[from], to-from) }
	mine := []api.Rec{{Key: part(0, 4), Stamp: at(5), Kind: api.Value, Body: part(4, 8)}}
	theirs := []api.Seen{{Key: part(8, 14), Stamp: at(5), Kind: api.Value}}
	var texts []string
	for range 2 {
		push := Push(mine, theirs)[0]
		texts = append(texts, push.Key, push.Body, Pull(mine, theirs)[0], Summary(mine)[0].Key)
	}
	clear(memory)
	if want := slices.Repeat([]string{"mine", "body", "theirs", "mine"}, 2); !slices.Equal(texts, want) {
		t.Errorf("texts have changed with what was handed in: %q", texts)
	}
	for i, a := range texts {
		for _, b := range texts[:i] {
			if unsafe.StringData(a) == unsafe.StringData(b) {
				t.Errorf("%q and %q share memory", a, b)
			}
		}
	}
}
