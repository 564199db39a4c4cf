package view

import (
	"math"
	"slices"
	"testing"

	"tattler/api"
)

// expectHear lays Hear against what was reckoned by hand.
func expectHear(t *testing.T, view []api.Member, self uint8, all []api.News, want []api.Member, wantChanged ...api.News) {
	t.Helper()
	check(t, view, self, all)
	got, changed := Hear(view, self, all)
	if !slices.Equal(got, want) || !slices.Equal(changed, wantChanged) {
		t.Fatalf("Hear(%v, %d, %v): %v, %v, not %v, %v", view, self, all, got, changed, want, wantChanged)
	}
}

// expectNothing is news that change nothing.
func expectNothing(t *testing.T, view []api.Member, self uint8, all ...api.News) {
	t.Helper()
	expectHear(t, view, self, all, view)
}

// expectMember is a piece of news of a node of a view, and what its member is behind it; no other one changes.
func expectMember(t *testing.T, view []api.Member, self uint8, x api.News, want api.Member) {
	t.Helper()
	if view[x.Node] == want {
		expectNothing(t, view, self, x)
		return
	}
	heard := slices.Clone(view)
	heard[x.Node] = want
	expectHear(t, view, self, []api.News{x}, heard, api.News{Node: x.Node, Member: want})
}

// fourStates are Alive, Suspect, Dead and Left.
func fourStates() []uint8 { return []uint8{1, 2, 3, 4} }

// P17.1: the chapter's examples, one behind the other.
func TestExamples(t *testing.T) {
	v := Fresh(3)
	if !slices.Equal(v, []api.Member{{State: api.Alive}, {State: api.Alive}, {State: api.Alive}}) {
		t.Fatal(v)
	}
	for _, row := range []struct {
		x, want api.News
		changed int
	}{
		{news(1, api.Dead, 0), news(1, api.Dead, 0), 1},
		{news(1, api.Alive, 0), news(1, api.Dead, 0), 0},
		{news(1, api.Alive, 1), news(1, api.Alive, 1), 1},
		{news(0, api.Suspect, 4), news(0, api.Alive, 5), 1},
	} {
		heard, changed := Hear(v, 0, []api.News{row.x})
		if heard[row.x.Node] != row.want.Member || !slices.Equal(changed, []api.News{row.want}[:row.changed]) {
			t.Errorf("%v: %v, %v", row.x, heard, changed)
		}
		v = heard
	}
	if want := []api.Member{{State: api.Alive, Inc: 5}, {State: api.Alive, Inc: 1}, {State: api.Alive}}; !slices.Equal(v, want) {
		t.Errorf("%v, not %v", v, want)
	}
}

// The states are the numbers that tables here say.
func TestStates(t *testing.T) {
	if api.Alive != 1 || api.Suspect != 2 || api.Dead != 3 || api.Left != 4 || api.MaxInc != math.MaxUint32 {
		t.Error("other numbers")
	}
}

// P17.1: Newer of each pair of states at one incarnation, of incarnations that are 1 apart, of 0 and 2^32 - 1.
func TestNewer(t *testing.T) {
	for _, row := range []struct {
		a, b api.Member
		want bool
	}{
		{member(api.Alive, 0), member(api.Alive, 0), false},
		{member(api.Suspect, 0), member(api.Alive, 0), true},
		{member(api.Dead, 0), member(api.Suspect, 0), true},
		{member(api.Left, 0), member(api.Dead, 0), true},
		{member(api.Left, 0), member(api.Alive, 0), true},
		{member(api.Alive, 0), member(api.Suspect, 0), false},
		{member(api.Suspect, 0), member(api.Left, 0), false},
		{member(api.Alive, 1), member(api.Left, 0), true},
		{member(api.Left, 0), member(api.Alive, 1), false},
		{member(api.Alive, api.MaxInc), member(api.Left, 0), true},
		{member(api.Left, 0), member(api.Alive, api.MaxInc), false},
		{member(api.Alive, api.MaxInc), member(api.Left, api.MaxInc-1), true},
		{member(api.Alive, 1<<31), member(api.Alive, 1<<31-1), true},
		{member(api.Alive, 1<<31-1), member(api.Alive, 1<<31), false},
		{member(0, 1), member(255, 0), true},
		{member(255, 1), member(254, 1), true},
		{member(128, 1), member(127, 1), true},
	} {
		if got := Newer(row.a, row.b); got != row.want {
			t.Errorf("Newer(%v, %v): %v", row.a, row.b, got)
		}
	}
}

// P17.1: each two of many members: of two unlike ones just one is newer, and none is newer than itself.
func TestNewerOfEachTwo(t *testing.T) {
	var all []api.Member
	for _, inc := range []uint32{0, 1, 2, 5, 255, 256, 1<<31 - 1, 1 << 31, api.MaxInc - 1, api.MaxInc} {
		for _, state := range []uint8{0, 1, 2, 3, 4, 5, 127, 128, 255} {
			all = append(all, member(state, inc))
		}
	}
	for _, a := range all {
		for _, b := range all {
			if got, want := Newer(a, b), rank(a) > rank(b); got != want {
				t.Fatalf("Newer(%v, %v): %v", a, b, got)
			}
			if some := Newer(a, b) || Newer(b, a); some != (a != b) || Newer(a, b) && Newer(b, a) {
				t.Fatalf("%v and %v: which one is newer", a, b)
			}
		}
	}
}

// P17.1: members drawn from few and from many.
func TestDrawnNewer(t *testing.T) {
	for _, d := range drawings(100) {
		for range 500 {
			a, b := d.member(), d.member()
			if got := Newer(a, b); got != (rank(a) > rank(b)) {
				t.Fatalf("Newer(%v, %v): %v", a, b, got)
			}
		}
	}
}

// P17.1: Fresh of each number near the bounds, and of such as are far from them, and would be within if they were cut short.
func TestFresh(t *testing.T) {
	for n := -300; n <= 600; n++ {
		if got, want := Fresh(n), slowFresh(n); !slices.Equal(got, want) {
			t.Errorf("Fresh(%d): %v, not %v", n, got, want)
		}
	}
	for _, n := range []int{math.MinInt, math.MinInt + 1, math.MinInt32, -1 << 20, 1 << 16, 1<<16 + 1, math.MaxInt32, 1 << 32, 1<<32 + 1, math.MaxInt} {
		if l := Fresh(n); len(l) != 0 {
			t.Errorf("Fresh(%d): %d members", n, len(l))
		}
	}
	for _, n := range []int{1, 2, 63, 64} {
		l := Fresh(n)
		if len(l) != n || slices.ContainsFunc(l, func(m api.Member) bool { return m.State != api.Alive || m.Inc != 0 }) {
			t.Errorf("Fresh(%d): %v", n, l)
		}
	}
}

// P17.1: no news, and a view of nobody.
func TestHearNothing(t *testing.T) {
	views := [][]api.Member{nil, {}, Fresh(1), Fresh(3), Fresh(64), {member(api.Left, 7), member(api.Dead, api.MaxInc), member(0, 0), member(255, 1)}}
	for _, v := range views {
		for _, self := range []uint8{0, 1, 63, 64, 255} {
			expectNothing(t, v, self)
			expectHear(t, v, self, []api.News{}, v)
			expectHear(t, v, self, make([]api.News, 0, 5), v)
		}
	}
	for _, nobody := range views[:2] {
		for _, self := range []uint8{0, 1, 255} {
			for _, node := range []uint8{0, 1, 63, 64, 255} {
				expectNothing(t, nobody, self, news(node, api.Dead, 3), news(node, api.Alive, 0), news(node, 9, 1))
			}
		}
	}
}

// P17.1: news of a node that isn't there, of the last one that is, and of node 255.
func TestWhoIsThere(t *testing.T) {
	for _, n := range []int{1, 2, 3, 63, 64} {
		v := Fresh(n)
		for _, self := range []uint8{0, uint8(n - 1), uint8(n), 255} {
			for node := n; node < 256; node++ {
				expectNothing(t, v, self, news(uint8(node), api.Dead, 9), news(uint8(node), api.Alive, api.MaxInc))
			}
			last := uint8(n - 1)
			want := member(api.Dead, 9)
			if last == self {
				want = member(api.Alive, 10)
			}
			expectMember(t, v, self, news(last, api.Dead, 9), want)
		}
	}
}

// P17.1: news of a state that is none, of another node and of self, whatever its incarnation.
func TestNoState(t *testing.T) {
	v := []api.Member{member(api.Alive, 3), member(api.Alive, 3), member(api.Left, 3)}
	for state := range 256 {
		if slices.Contains(fourStates(), uint8(state)) {
			continue
		}
		for _, inc := range []uint32{0, 2, 3, 4, 100, api.MaxInc} {
			for node := range uint8(3) {
				expectNothing(t, v, 0, news(node, uint8(state), inc))
			}
		}
	}
	for _, state := range fourStates() {
		expectMember(t, v, 0, news(0, state, 4), member(api.Alive, 5))
		expectMember(t, v, 0, news(1, state, 4), member(state, 4))
		expectMember(t, v, 0, news(2, state, 4), member(state, 4))
	}
}

// P17.1: of another node: newer by its incarnation, newer by its state alone, the same, and older.
func TestAnotherNode(t *testing.T) {
	for _, inc := range []uint32{1, 5, 1 << 31, api.MaxInc - 1} {
		for _, had := range fourStates() {
			v := []api.Member{member(api.Alive, inc), member(had, inc), member(api.Alive, inc)}
			for _, state := range fourStates() {
				for _, self := range []uint8{0, 2, 3, 255} {
					expectMember(t, v, self, news(1, state, inc+1), member(state, inc+1))
					expectMember(t, v, self, news(1, state, inc), member(max(had, state), inc))
					expectMember(t, v, self, news(1, state, inc-1), member(had, inc))
					expectMember(t, v, self, news(1, state, api.MaxInc), member(state, api.MaxInc))
					expectMember(t, v, self, news(1, state, 0), member(had, inc))
				}
			}
		}
	}
}

// P17.1: of another node at the least and at the greatest incarnation.
func TestAnotherNodeAtTheEnds(t *testing.T) {
	for _, had := range fourStates() {
		low, high := []api.Member{member(had, 0), {}}, []api.Member{member(had, api.MaxInc), {}}
		for _, state := range fourStates() {
			expectMember(t, low, 1, news(0, state, 0), member(max(had, state), 0))
			expectMember(t, low, 1, news(0, state, 1), member(state, 1))
			expectMember(t, low, 1, news(0, state, api.MaxInc), member(state, api.MaxInc))
			expectMember(t, high, 1, news(0, state, api.MaxInc), member(max(had, state), api.MaxInc))
			expectMember(t, high, 1, news(0, state, api.MaxInc-1), member(had, api.MaxInc))
			expectMember(t, high, 1, news(0, state, 0), member(had, api.MaxInc))
		}
	}
}

// P17.1: of self: with a greater incarnation, with the same one in each of the four states, and with a lesser one.
func TestSelf(t *testing.T) {
	for _, self := range []uint8{0, 1, 2} {
		v := []api.Member{member(api.Alive, 7), member(api.Alive, 7), member(api.Alive, 7)}
		for _, state := range fourStates() {
			expectMember(t, v, self, news(self, state, 8), member(api.Alive, 9))
			expectMember(t, v, self, news(self, state, 100), member(api.Alive, 101))
			expectMember(t, v, self, news(self, state, 6), member(api.Alive, 7))
			expectMember(t, v, self, news(self, state, 0), member(api.Alive, 7))
		}
		expectMember(t, v, self, news(self, api.Alive, 7), member(api.Alive, 7))
		expectMember(t, v, self, news(self, api.Suspect, 7), member(api.Alive, 8))
		expectMember(t, v, self, news(self, api.Dead, 7), member(api.Alive, 8))
		expectMember(t, v, self, news(self, api.Left, 7), member(api.Alive, 8))
	}
	expectMember(t, Fresh(1), 0, news(0, api.Alive, 0), member(api.Alive, 0))
	expectMember(t, Fresh(1), 0, news(0, api.Left, 0), member(api.Alive, 1))
	expectMember(t, Fresh(64), 63, news(63, api.Dead, 0), member(api.Alive, 1))
}

// P17.1: self at MaxInc stays so, and nothing is told then as changed, since nothing has; just below it, it comes to MaxInc.
func TestSelfAtMaxInc(t *testing.T) {
	for _, state := range fourStates() {
		at, below, far := []api.Member{member(api.Alive, api.MaxInc)}, []api.Member{member(api.Alive, api.MaxInc-1)}, Fresh(2)
		for _, inc := range []uint32{api.MaxInc, api.MaxInc - 1, 0} {
			expectNothing(t, at, 0, news(0, state, inc))
		}
		expectMember(t, below, 0, news(0, state, api.MaxInc), member(api.Alive, api.MaxInc))
		if state != api.Alive {
			expectMember(t, below, 0, news(0, state, api.MaxInc-1), member(api.Alive, api.MaxInc))
		}
		expectMember(t, far, 1, news(1, state, api.MaxInc), member(api.Alive, api.MaxInc))
		expectMember(t, far, 1, news(1, state, api.MaxInc-1), member(api.Alive, api.MaxInc))
		expectMember(t, far, 1, news(1, state, api.MaxInc-2), member(api.Alive, api.MaxInc-1))
	}
	expectNothing(t, []api.Member{member(api.Alive, api.MaxInc-1)}, 0, news(0, api.Alive, api.MaxInc-1))
	// Behind a change to MaxInc there is no further one.
	expectHear(t, Fresh(1), 0, []api.News{news(0, api.Dead, api.MaxInc), news(0, api.Left, api.MaxInc), news(0, api.Suspect, 5)},
		[]api.Member{member(api.Alive, api.MaxInc)}, news(0, api.Alive, api.MaxInc))
}

// P17.1: a self that isn't in the view: all nodes are other ones.
func TestSelfNotThere(t *testing.T) {
	for _, self := range []uint8{3, 4, 63, 64, 255} {
		v := Fresh(3)
		for node := range uint8(3) {
			expectMember(t, v, self, news(node, api.Suspect, 0), member(api.Suspect, 0))
			expectMember(t, v, self, news(node, api.Dead, 4), member(api.Dead, 4))
			expectMember(t, v, self, news(node, api.Alive, 0), member(api.Alive, 0))
		}
		expectNothing(t, v, self, news(self, api.Dead, 0), news(self, api.Alive, 7))
	}
}

// P17.1: a view whose self isn't Alive: it is by the incarnation alone that news of self are held against it.
func TestSelfNotAlive(t *testing.T) {
	for _, had := range []uint8{api.Suspect, api.Dead, api.Left, 0, 5, 255} {
		v := []api.Member{member(api.Alive, 7), member(had, 7)}
		for _, state := range fourStates() {
			expectMember(t, v, 1, news(1, state, 6), member(had, 7))
			expectMember(t, v, 1, news(1, state, 8), member(api.Alive, 9))
		}
		expectMember(t, v, 1, news(1, api.Alive, 7), member(had, 7))
		expectMember(t, v, 1, news(1, api.Suspect, 7), member(api.Alive, 8))
		expectMember(t, v, 1, news(1, api.Dead, 7), member(api.Alive, 8))
		expectMember(t, v, 1, news(1, api.Left, 7), member(api.Alive, 8))
		// At MaxInc, too, it is Alive from then on, as the chapter's words say, and that is a change.
		v[1].Inc = api.MaxInc
		expectMember(t, v, 1, news(1, api.Alive, api.MaxInc), member(had, api.MaxInc))
		expectMember(t, v, 1, news(1, api.Left, api.MaxInc-1), member(had, api.MaxInc))
		for _, state := range []uint8{api.Suspect, api.Dead, api.Left} {
			expectMember(t, v, 1, news(1, state, api.MaxInc), member(api.Alive, api.MaxInc))
		}
	}
}

// P17.1: members of states that are none are less new or newer by their numbers.
func TestOddMembers(t *testing.T) {
	v := []api.Member{member(0, 2), member(5, 2), member(255, 2)}
	for _, state := range fourStates() {
		expectMember(t, v, 9, news(0, state, 2), member(state, 2))
		expectMember(t, v, 9, news(1, state, 2), member(5, 2))
		expectMember(t, v, 9, news(2, state, 2), member(255, 2))
		expectMember(t, v, 9, news(2, state, 3), member(state, 3))
		expectMember(t, v, 9, news(0, state, 1), member(0, 2))
	}
}

// P17.1: news one by one in their order: a later one meets what an earlier one has changed; what has changed is told in order, the same node several times.
func TestOneByOne(t *testing.T) {
	rising := []api.News{news(1, api.Suspect, 0), news(1, api.Dead, 0), news(2, api.Dead, 0), news(1, api.Alive, 1), news(2, api.Suspect, 0), news(1, api.Left, 1)}
	expectHear(t, Fresh(3), 0, rising,
		[]api.Member{member(api.Alive, 0), member(api.Left, 1), member(api.Dead, 0)},
		news(1, api.Suspect, 0), news(1, api.Dead, 0), news(2, api.Dead, 0), news(1, api.Alive, 1), news(1, api.Left, 1))
	slices.Reverse(rising)
	expectHear(t, Fresh(3), 0, rising,
		[]api.Member{member(api.Alive, 0), member(api.Left, 1), member(api.Dead, 0)},
		news(1, api.Left, 1), news(2, api.Suspect, 0), news(2, api.Dead, 0))
	// Told twice, it is news once.
	expectHear(t, Fresh(2), 0, []api.News{news(1, api.Dead, 3), news(1, api.Dead, 3)},
		[]api.Member{member(api.Alive, 0), member(api.Dead, 3)}, news(1, api.Dead, 3))
	// What is nothing doesn't keep what stands behind it from being heard.
	expectHear(t, Fresh(2), 0, []api.News{news(2, api.Dead, 3), news(1, 0, 3), news(1, 5, 3), news(1, api.Alive, 0), news(1, api.Dead, 3)},
		[]api.Member{member(api.Alive, 0), member(api.Dead, 3)}, news(1, api.Dead, 3))
}

// P17.1: of self one by one: it answers each that is above what it has become by then.
func TestSelfOneByOne(t *testing.T) {
	all := []api.News{
		news(0, api.Suspect, 0), // 1
		news(0, api.Suspect, 0),
		news(1, api.Suspect, 0),
		news(0, api.Alive, 1),
		news(0, api.Dead, 1),  // 2
		news(0, api.Alive, 3), // 4
		news(0, api.Left, 3),
		news(1, api.Alive, 0),
		news(0, api.Left, 4), // 5
	}
	expectHear(t, Fresh(2), 0, all,
		[]api.Member{member(api.Alive, 5), member(api.Suspect, 0)},
		news(0, api.Alive, 1), news(1, api.Suspect, 0), news(0, api.Alive, 2), news(0, api.Alive, 4), news(0, api.Alive, 5))
	slices.Reverse(all)
	expectHear(t, Fresh(2), 0, all,
		[]api.Member{member(api.Alive, 5), member(api.Suspect, 0)},
		news(0, api.Alive, 5), news(1, api.Suspect, 0))
}

// P17.1: Up of nobody, of each state, of all 64, rising.
func TestUp(t *testing.T) {
	for _, row := range []struct {
		states []uint8
		want   []uint8
	}{
		{nil, nil},
		{[]uint8{}, nil},
		{[]uint8{api.Alive}, []uint8{0}},
		{[]uint8{api.Suspect}, []uint8{0}},
		{[]uint8{api.Dead}, nil},
		{[]uint8{api.Left}, nil},
		{[]uint8{api.Left, api.Dead, api.Suspect, api.Alive}, []uint8{2, 3}},
		{[]uint8{api.Alive, api.Dead, api.Suspect, api.Left, api.Alive, api.Dead}, []uint8{0, 2, 4}},
		{[]uint8{0, 5, 255, 129, 130}, nil},
		{[]uint8{0, 1, 5, 2, 255}, []uint8{1, 3}},
	} {
		for _, inc := range []uint32{0, 5, api.MaxInc} {
			v := make([]api.Member, len(row.states))
			for i, state := range row.states {
				v[i] = member(state, inc)
			}
			check(t, v, 0, nil)
			if l := Up(v); !slices.Equal(l, row.want) {
				t.Errorf("Up(%v): %d, not %d", v, l, row.want)
			}
		}
	}
	for state := range 256 {
		if l := Up([]api.Member{member(uint8(state), 1)}); (len(l) == 1) != (state == 1 || state == 2) {
			t.Errorf("state %d: %d", state, l)
		}
	}
	l := Up(Fresh(64))
	if len(l) != 64 || !slices.IsSorted(l) || l[0] != 0 || l[63] != 63 {
		t.Errorf("of 64: %d", l)
	}
}

// P17.1: All of nobody and of many, rising, whatever their states.
func TestAll(t *testing.T) {
	for _, nobody := range [][]api.Member{nil, {}, make([]api.Member, 0, 4)} {
		if l := All(nobody); len(l) != 0 {
			t.Errorf("of nobody: %v", l)
		}
	}
	v := []api.Member{member(api.Left, 1), member(api.Alive, 0), member(api.Dead, api.MaxInc), member(api.Suspect, 2), member(0, 3), member(255, 4)}
	want := []api.News{news(0, 4, 1), news(1, 1, 0), news(2, 3, 4294967295), news(3, 2, 2), news(4, 0, 3), news(5, 255, 4)}
	if l := All(v); !slices.Equal(l, want) {
		t.Errorf("%v, not %v", l, want)
	}
	l := All(Fresh(64))
	if len(l) != 64 {
		t.Fatalf("of 64: %d", len(l))
	}
	for i, x := range l {
		if x != news(uint8(i), api.Alive, 0) {
			t.Errorf("at %d: %v", i, x)
		}
	}
}

// P17.1: views of more members than there may be nodes: who can be named is told, and heard of.
func TestLongViews(t *testing.T) {
	for _, n := range []int{65, 128, 255, 256, 257, 300, 1000} {
		v := make([]api.Member, n)
		for i := range v {
			v[i] = member(fourStates()[i%4], uint32(i))
		}
		check(t, v, 0, []api.News{news(64, api.Dead, 2000), news(255, api.Dead, 2000), news(0, api.Dead, 2000)})
		named := min(n, 256)
		if l := All(v); len(l) != named || l[named-1].Node != uint8(named-1) {
			t.Errorf("of %d: %d are told", n, len(l))
		}
		if l := Up(v); len(slices.Compact(l)) != (named+3)/4+(named+2)/4 || !slices.IsSorted(l) {
			t.Errorf("of %d: %d are up", n, l)
		}
		if heard, _ := Hear(v, 0, []api.News{news(254, api.Left, 5000)}); len(heard) != n || n > 254 && heard[254] != member(api.Left, 5000) {
			t.Errorf("of %d: %d", n, len(heard))
		}
	}
}

// P17.1 to P17.3: every row of one to three pieces of news, out of the four states, two incarnations and three nodes of which two are there, each of the three being self.
func TestEveryRow(t *testing.T) {
	d := drawing{dice: newDice(1)}
	for _, low := range []uint32{0, api.MaxInc - 1} {
		var pieces []api.News
		for node := range uint8(3) {
			for _, state := range fourStates() {
				pieces = append(pieces, news(node, state, low), news(node, state, low+1))
			}
		}
		views := [][]api.Member{{member(api.Alive, low), member(api.Alive, low)}, {member(api.Alive, low+1), member(api.Dead, low)}}
		for _, v := range views {
			for self := range uint8(3) {
				for _, x := range pieces {
					checkAll(t, d, v, self, []api.News{x})
					for _, y := range pieces {
						checkAll(t, d, v, self, []api.News{x, y})
						for _, z := range pieces {
							checkAll(t, d, v, self, []api.News{x, y, z})
						}
					}
				}
			}
		}
	}
}

// P17.1 to P17.3: views and news drawn at random, from few nodes and from many.
func TestDrawnNews(t *testing.T) {
	for _, d := range drawings(200) {
		for range 200 {
			v, self := d.view(), d.self()
			checkAll(t, d, v, self, d.some(one(d.dice, 2, 8, 100)))
		}
	}
}

// P17.1: likewise with members of any state, of which P17.2 and P17.4 say nothing.
func TestDrawnOddViews(t *testing.T) {
	for _, d := range drawings(300) {
		for range 50 {
			v := d.view()
			for range 1 + d.IntN(3) {
				v[d.IntN(len(v))].State = one(d.dice, 0, 5, 255, uint8(d.IntN(256)))
			}
			check(t, v, d.self(), d.some(20))
		}
	}
}

// P17.2: a life long, from a fresh view on: self is Alive behind each hearing, and no incarnation goes back.
func TestDrawnLives(t *testing.T) {
	for _, d := range drawings(400) {
		self := uint8(d.IntN(d.nodes))
		v := Fresh(d.nodes)
		for range 60 {
			all := d.some(6)
			newerAlone(t, v, self, all)
			heard, _ := Hear(v, self, all)
			for node, had := range v {
				if heard[node] != had && !Newer(heard[node], had) || heard[node].Inc < had.Inc {
					t.Fatalf("Hear(%v, %d, %v): of %d %v", v, self, all, node, heard[node])
				}
			}
			if heard[self].State != api.Alive {
				t.Fatalf("Hear(%v, %d, %v): self is %v", v, self, all, heard[self])
			}
			v = heard
		}
	}
}

// P17.2: what self says is newer than what was said of it, so that others believe it; but at MaxInc.
func TestSelfIsBelieved(t *testing.T) {
	for _, d := range drawings(500) {
		for range 100 {
			v, self := d.view(), uint8(d.IntN(d.nodes))
			v[self].State = api.Alive
			x := api.News{Node: self, Member: d.member()}
			heard, changed := Hear(v, self, []api.News{x})
			if x.Member == heard[self] || x.Member.Inc == api.MaxInc {
				continue
			}
			if !Newer(heard[self], x.Member) {
				t.Fatalf("Hear(%v, %d, %v): self is %v", v, self, x, heard[self])
			}
			theirs, _ := Hear(v, self+1, append([]api.News{x}, changed...))
			if theirs[self] != heard[self] {
				t.Fatalf("%v behind %v, %v: %v", v, x, changed, theirs[self])
			}
		}
	}
}

// P17.3: every order of a few pieces of news, of which the newest is known.
func TestEveryOrder(t *testing.T) {
	four := []api.News{news(1, api.Left, 2), news(1, api.Alive, 3), news(1, api.Suspect, 3), news(2, api.Dead, 0)}
	for row := range 256 {
		at := []int{row & 3, row >> 2 & 3, row >> 4 & 3, row >> 6}
		all := []api.News{four[at[0]], four[at[1]], four[at[2]], four[at[3]]}
		want := Fresh(3)
		for i, x := range four {
			if slices.Contains(at, i) {
				want[x.Node] = x.Member
			}
		}
		if heard, _ := Hear(Fresh(3), 0, all); !slices.Equal(heard, want) {
			t.Fatalf("%v: %v, not %v", all, heard, want)
		}
	}
}

// P17.4: whoever hears All of a view has no member but self that is less new than there.
func TestToldInFull(t *testing.T) {
	toldInFull(t, Fresh(3), 0, []api.Member{member(api.Dead, 2), member(api.Alive, 4), member(api.Left, 0)})
	if heard, changed := Hear(Fresh(3), 0, All([]api.Member{member(api.Dead, 2), member(api.Alive, 4), member(api.Left, 0)})); !slices.Equal(heard, []api.Member{member(api.Alive, 3), member(api.Alive, 4), member(api.Left, 0)}) || len(changed) != 3 {
		t.Errorf("%v, %v", heard, changed)
	}
	for _, d := range drawings(600) {
		for range 200 {
			v, theirs := d.view(), d.view()
			toldInFull(t, v, d.self(), theirs)
			toldInFull(t, v, d.self(), theirs[:d.IntN(d.nodes+1)])
			toldInFull(t, v[:d.IntN(d.nodes+1)], d.self(), theirs)
			toldInFull(t, v, d.self(), v)
		}
	}
}

// P17.4: two that hear each other's All believe the same of all but themselves.
func TestBothTold(t *testing.T) {
	for _, d := range drawings(700) {
		for range 50 {
			a, b := d.view(), d.view()
			mine, yours := d.self(), d.self()
			first, _ := Hear(a, mine, All(b))
			second, _ := Hear(b, yours, All(first))
			for node := range first {
				if node != int(mine) && node != int(yours) && first[node] != second[node] {
					t.Fatalf("%v, %d and %v, %d: of %d %v and %v", a, mine, b, yours, node, first[node], second[node])
				}
			}
		}
	}
}

// R2: asked again, each call answers the same, whatever else was asked between.
func TestAskedAgain(t *testing.T) {
	d := drawings(800)[15]
	v, all := d.view(), d.some(20)
	heard, changed := Hear(v, 0, all)
	for range 20 {
		Fresh(d.IntN(65))
		Hear(d.view(), d.self(), d.some(20))
		Up(d.view())
		All(d.view())
		if h, c := Hear(v, 0, all); !slices.Equal(h, heard) || !slices.Equal(c, changed) {
			t.Errorf("%v, %v, then %v, %v", heard, changed, h, c)
		}
	}
}

// R3: what is handed in stays as it is, its spare room too, and plays no part beyond its length.
func TestHandedIn(t *testing.T) {
	for _, d := range drawings(900) {
		for _, n := range []int{0, 1, 2, d.nodes / 2, d.nodes} {
			n = min(n, d.nodes)
			viewRoom, newsRoom := d.view(), d.some(100)
			view, all := slices.Clone(viewRoom), slices.Clone(newsRoom)
			check(t, viewRoom[:n], d.self(), newsRoom[:d.IntN(len(newsRoom)+1)])
			if !slices.Equal(viewRoom, view) || !slices.Equal(newsRoom, all) {
				t.Fatalf("of %d: what was handed in has changed", n)
			}
		}
	}
}

// spoil overwrites a list, its spare room too.
func spoil[T any](l []T, x T) {
	room := l[:cap(l)]
	for i := range room {
		room[i] = x
	}
}

// R3: what was answered may be changed, its spare room too, without a change of what was handed in, or of another answer; and what was handed in without a change of what was answered.
func TestAnswersStandApart(t *testing.T) {
	for _, d := range drawings(1000) {
		for _, most := range []int{0, 1, 2, 3, 40} {
			roomOfView, roomOfNews := d.view(), d.some(most)
			view, all, self := roomOfView[:d.IntN(d.nodes+1)], roomOfNews[:d.IntN(len(roomOfNews)+1)], d.self()
			viewGiven, newsGiven := slices.Clone(roomOfView), slices.Clone(roomOfNews)
			want, wantChanged := slowHear(view, self, all)
			wantUp, wantAll := slowUp(view), slowAll(view)
			heard, changed := Hear(view, self, all)
			up, told := Up(view), All(view)
			otherHeard, otherChanged := Hear(view, self, all)
			spoil(otherHeard, member(9, 9))
			if !slices.Equal(otherChanged, wantChanged) {
				t.Fatalf("what has changed became %v with the view", otherChanged)
			}
			spoil(otherChanged, news(9, 9, 9))
			spoil(Up(view), 99)
			spoil(All(view), news(9, 9, 9))
			if !slices.Equal(roomOfView, viewGiven) || !slices.Equal(roomOfNews, newsGiven) {
				t.Fatalf("%v, %v have become %v, %v with an answer", viewGiven, newsGiven, roomOfView, roomOfNews)
			}
			spoil(roomOfView, member(8, 8))
			spoil(roomOfNews, news(8, 8, 8))
			if !slices.Equal(heard, want) || !slices.Equal(changed, wantChanged) || !slices.Equal(up, wantUp) || !slices.Equal(told, wantAll) {
				t.Fatalf("answers have become %v, %v, %d, %v", heard, changed, up, told)
			}
		}
	}
}

// R3: each Fresh is a view of its own.
func TestFreshStandsApart(t *testing.T) {
	spoil(Fresh(64), member(api.Dead, 3))
	a := Fresh(64)
	spoil(Fresh(64), member(api.Dead, 3))
	if !slices.Equal(a, slowFresh(64)) || !slices.Equal(Fresh(64), slowFresh(64)) {
		t.Error("a fresh view has changed with another one")
	}
}
