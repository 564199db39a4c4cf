package view

import (
	"math/rand/v2"
	"slices"
	"testing"

	"tattler/api"
)

// member and news are short for tables.
func member(state uint8, inc uint32) api.Member { return api.Member{State: state, Inc: inc} }

func news(node, state uint8, inc uint32) api.News {
	return api.News{Node: node, Member: member(state, inc)}
}

// rank is a member as one number whose plain order is that of how new it is.
func rank(m api.Member) uint64 { return uint64(m.Inc)*256 + uint64(m.State) }

func unrank(r uint64) api.Member { return member(uint8(r%256), uint32(r/256)) }

// counts tells whether a piece of news is of one of n nodes, and of one of the four states.
func counts(x api.News, n int) bool {
	return int(x.Node) < n && slices.Contains([]uint8{1, 2, 3, 4}, x.Member.State)
}

// slowFresh appends what Fresh makes at once.
func slowFresh(n int) []api.Member {
	if n > 64 {
		return nil
	}
	var l []api.Member
	for i := 0; i < n; i++ {
		l = append(l, api.Member{State: 1, Inc: 0})
	}
	return l
}

// slowHear keeps ranks. Self's own is held against an Alive one of its incarnation: what is above that, is answered.
func slowHear(view []api.Member, self uint8, all []api.News) ([]api.Member, []api.News) {
	ranks := make([]uint64, len(view))
	for node, m := range view {
		ranks[node] = rank(m)
	}
	var changed []api.News
	for _, x := range all {
		if !counts(x, len(view)) {
			continue
		}
		had := ranks[x.Node]
		switch {
		case x.Node != self:
			ranks[x.Node] = max(had, rank(x.Member))
		case rank(x.Member) > had/256*256+1:
			ranks[self] = min(rank(x.Member)/256+1, 0xFFFFFFFF)*256 + 1
		}
		if ranks[x.Node] != had {
			changed = append(changed, api.News{Node: x.Node, Member: unrank(ranks[x.Node])})
		}
	}
	heard := make([]api.Member, len(view))
	for node, r := range ranks {
		heard[node] = unrank(r)
	}
	return heard, changed
}

// slowUp goes down, and strikes out who isn't there.
func slowUp(view []api.Member) []uint8 {
	var l []uint8
	for node := min(len(view), 256) - 1; node >= 0; node-- {
		switch view[node].State {
		case 1, 2:
			l = append(l, uint8(node))
		}
	}
	slices.Reverse(l)
	return l
}

// slowAll likewise.
func slowAll(view []api.Member) []api.News {
	var l []api.News
	for node := min(len(view), 256) - 1; node >= 0; node-- {
		l = append(l, news(uint8(node), view[node].State, view[node].Inc))
	}
	slices.Reverse(l)
	return l
}

// check lays all that can be asked of a view and news against the reckoning, and looks that neither has changed.
func check(t *testing.T, view []api.Member, self uint8, all []api.News) {
	t.Helper()
	viewGiven, newsGiven := slices.Clone(view), slices.Clone(all)
	want, wantChanged := slowHear(view, self, all)
	got, changed := Hear(view, self, all)
	if !slices.Equal(got, want) || !slices.Equal(changed, wantChanged) {
		t.Fatalf("Hear(%v, %d, %v): %v, %v, not %v, %v", view, self, all, got, changed, want, wantChanged)
	}
	if got, want := Up(view), slowUp(view); !slices.Equal(got, want) {
		t.Fatalf("Up(%v): %d, not %d", view, got, want)
	}
	if got, want := All(view), slowAll(view); !slices.Equal(got, want) {
		t.Fatalf("All(%v): %v, not %v", view, got, want)
	}
	if !slices.Equal(view, viewGiven) || !slices.Equal(all, newsGiven) {
		t.Fatalf("%v, %v have become %v, %v", viewGiven, newsGiven, view, all)
	}
}

// newerAlone is P17.2, by what the program answers alone: each change stands in for a member that is less new, and all of them together make the view that is answered.
func newerAlone(t *testing.T, view []api.Member, self uint8, all []api.News) {
	t.Helper()
	heard, changed := Hear(view, self, all)
	have := slices.Clone(view)
	for _, x := range changed {
		had := have[x.Node]
		if !Newer(x.Member, had) && !stuck(had, x.Node == self) {
			t.Fatalf("Hear(%v, %d, %v): of %d %v stands in for %v", view, self, all, x.Node, x.Member, had)
		}
		if x.Node == self && x.Member.State != api.Alive {
			t.Fatalf("Hear(%v, %d, %v): self becomes %v", view, self, all, x.Member)
		}
		have[x.Node] = x.Member
	}
	if !slices.Equal(have, heard) {
		t.Fatalf("Hear(%v, %d, %v): %v, and by what has changed %v", view, self, all, heard, have)
	}
	if int(self) < len(view) && view[self].State == api.Alive && heard[self].State != api.Alive {
		t.Fatalf("Hear(%v, %d, %v): self was Alive, and is %v", view, self, all, heard[self])
	}
}

// stuck is a self that isn't Alive at MaxInc: by the chapter's words news of that make it Alive, and nothing that is Alive is newer. No self that ever was Alive comes to that.
func stuck(m api.Member, isSelf bool) bool {
	return isSelf && m.Inc == api.MaxInc && m.State != api.Alive
}

// anyOrder is P17.3: of all but self the newest of all is believed; and it is the same in other orders, and if some are heard several times.
func anyOrder(t *testing.T, d drawing, view []api.Member, self uint8, all []api.News) {
	t.Helper()
	newest := slices.Clone(view)
	for node := range newest {
		for _, x := range all {
			if int(x.Node) == node && counts(x, len(view)) && rank(x.Member) > rank(newest[node]) {
				newest[node] = x.Member
			}
		}
	}
	backwards := slices.Clone(all)
	slices.Reverse(backwards)
	for _, row := range [][]api.News{all, backwards, d.again(all), slices.Concat(all, backwards)} {
		heard, _ := Hear(view, self, row)
		for node, m := range heard {
			if node != int(self) && m != newest[node] {
				t.Fatalf("Hear(%v, %d, %v): of %d %v, not the newest %v", view, self, row, node, m, newest[node])
			}
		}
	}
}

// toldInFull is P17.4: whoever hears All of a view believes of all but self what is at least as new; told again, or by itself, it has nothing to change but self.
func toldInFull(t *testing.T, view []api.Member, self uint8, theirs []api.Member) {
	t.Helper()
	heard, _ := Hear(view, self, All(theirs))
	for node := range min(len(view), len(theirs)) {
		if node != int(self) && Newer(theirs[node], heard[node]) {
			t.Fatalf("Hear(%v, %d, All(%v)): of %d %v", view, self, theirs, node, heard[node])
		}
	}
	for _, again := range [][]api.Member{theirs, heard} {
		_, changed := Hear(heard, self, All(again))
		for _, x := range changed {
			if x.Node != self {
				t.Fatalf("%v, %d, behind All of %v: %v changes at All of %v", view, self, theirs, x, again)
			}
		}
	}
}

// inPieces: news are heard one by one, so that it doesn't matter where a row of them is cut.
func inPieces(t *testing.T, view []api.Member, self uint8, all []api.News) {
	t.Helper()
	want, wantChanged := Hear(view, self, all)
	have, haveChanged := slices.Clone(view), []api.News(nil)
	for i := range all {
		var changed []api.News
		have, changed = Hear(have, self, all[i:i+1])
		if len(changed) > 1 {
			t.Fatalf("%v changes %v", all[i], changed)
		}
		haveChanged = append(haveChanged, changed...)
	}
	if !slices.Equal(have, want) || !slices.Equal(haveChanged, wantChanged) {
		t.Fatalf("Hear(%v, %d, %v): %v, %v; one by one %v, %v", view, self, all, want, wantChanged, have, haveChanged)
	}
}

// checkAll is check, and all that is promised beside it, of views of the four states.
func checkAll(t *testing.T, d drawing, view []api.Member, self uint8, all []api.News) {
	t.Helper()
	check(t, view, self, all)
	newerAlone(t, view, self, all)
	anyOrder(t, d, view, self, all)
	inPieces(t, view, self, all)
}

// dice draws what tests are made of: always the same, so that a test fails each time or never.
type dice struct{ *rand.Rand }

func newDice(seed uint64) dice { return dice{rand.New(rand.NewPCG(seed, 17))} }

func one[T any](d dice, l ...T) T { return l[d.IntN(len(l))] }

// drawing is of how many nodes it is drawn, and from which incarnation on how many: 0 is any that there are.
type drawing struct {
	dice
	nodes int
	from  uint32
	incs  int
}

func drawings(seed uint64) []drawing {
	var l []drawing
	for _, nodes := range []int{1, 2, 3, 6, 64} {
		for _, incs := range []struct {
			from uint32
			many int
		}{{0, 1}, {0, 2}, {0, 5}, {api.MaxInc, 1}, {api.MaxInc - 2, 3}, {0, 0}} {
			l = append(l, drawing{newDice(seed + uint64(len(l))), nodes, incs.from, incs.many})
		}
	}
	return l
}

func (d drawing) inc() uint32 {
	if d.incs > 0 {
		return d.from + uint32(d.IntN(d.incs))
	}
	return one(d.dice, d.Uint32(), d.Uint32(), 0, 1, 255, 256, 1<<31-1, 1<<31, api.MaxInc-1, api.MaxInc)
}

func (d drawing) state() uint8 { return uint8(1 + d.IntN(4)) }

func (d drawing) member() api.Member { return member(d.state(), d.inc()) }

func (d drawing) view() []api.Member {
	l := make([]api.Member, d.nodes)
	for i := range l {
		l[i] = d.member()
	}
	return l
}

// self is now and then one that isn't in the view.
func (d drawing) self() uint8 {
	if d.IntN(10) == 0 {
		return one(d.dice, uint8(d.nodes), 64, 255)
	}
	return uint8(d.IntN(d.nodes))
}

// some is news of nodes that are there, and now and then of others, or of states that are none.
func (d drawing) some(most int) []api.News {
	l := make([]api.News, d.IntN(most+1))
	for i := range l {
		l[i] = api.News{Node: uint8(d.IntN(d.nodes)), Member: d.member()}
		if d.IntN(8) == 0 {
			l[i].Node = one(d.dice, uint8(d.nodes), uint8(d.nodes-1), uint8(d.IntN(256)), 255)
		}
		if d.IntN(8) == 0 {
			l[i].Member.State = one(d.dice, 0, 5, 255, uint8(d.IntN(256)))
		}
	}
	return l
}

// again is the same news in any order, some of them several times.
func (d drawing) again(all []api.News) []api.News {
	l := slices.Clone(all)
	for range d.IntN(8) {
		if len(l) > 0 {
			l = append(l, one(d.dice, l...))
		}
	}
	d.Shuffle(len(l), func(i, j int) { l[i], l[j] = l[j], l[i] })
	return l
}
