package hlc

import (
	"math"
	"math/big"
	"math/rand/v2"
	"testing"

	"tattler/api"
)

const (
	lastTime    = 281474976710655
	lastLogical = 4294967295
)

// weight is a stamp as one number: the higher it is, the further behind the stamp stands.
func weight(s api.Stamp) *big.Int {
	w := new(big.Int).SetUint64(s.Phys)
	w.Mul(w, big.NewInt(4294967296))
	w.Add(w, big.NewInt(int64(s.Logical)))
	w.Mul(w, big.NewInt(256))
	return w.Add(w, big.NewInt(int64(s.Node)))
}

// slowClock is the chapter's words in numbers that never wrap round.
type slowClock struct {
	node               uint8
	began, time, drift *big.Int
	rest               bool
	last               api.Stamp
}

func slowNew(node uint8, time uint64, drift int, rest bool) *slowClock {
	t := new(big.Int).SetUint64(time)
	return &slowClock{node: node, began: t, time: t, drift: big.NewInt(int64(drift)), rest: rest}
}

func (m *slowClock) pass(n int) {
	if n <= 0 {
		return
	}
	m.time = new(big.Int).Add(m.time, big.NewInt(int64(n)))
	if end := big.NewInt(lastTime); m.time.Cmp(end) > 0 {
		m.time = end
	}
}

func (m *slowClock) now() (api.Stamp, api.Errno) {
	if m.rest && new(big.Int).Sub(m.time, m.began).Cmp(m.drift) <= 0 {
		return api.Stamp{}, api.ErrBusy
	}
	if m.time.Cmp(new(big.Int).SetUint64(m.last.Phys)) > 0 {
		m.last = api.Stamp{Phys: m.time.Uint64(), Node: m.node}
		return m.last, api.OK
	}
	if m.last.Logical == lastLogical {
		return api.Stamp{}, api.ErrFull
	}
	m.last.Logical++
	m.last.Node = m.node
	return m.last, api.OK
}

func (m *slowClock) see(s api.Stamp) api.Errno {
	ahead := new(big.Int).Sub(new(big.Int).SetUint64(s.Phys), m.time)
	if ahead.Cmp(m.drift) > 0 || s.Node/64 > 0 {
		return api.ErrDrift
	}
	if weight(s).Cmp(weight(m.last)) > 0 {
		m.last = s
	}
	return api.OK
}

// pair is a clock, the reckoning apart from it, and the greatest weight of what it gave and took so far.
type pair struct {
	t       *testing.T
	c       *Clock
	m       *slowClock
	drift   uint64
	highest *big.Int
}

func made(t *testing.T, node uint8, time uint64, drift int, rest bool) *Clock {
	t.Helper()
	c, e := New(node, time, drift, rest)
	if c == nil || e != api.OK {
		t.Fatalf("New(%d, %d, %d, %t): %d", node, time, drift, rest, e)
	}
	return c
}

func newPair(t *testing.T, node uint8, time uint64, drift int, rest bool) *pair {
	t.Helper()
	p := &pair{t: t, c: made(t, node, time, drift, rest), m: slowNew(node, time, drift, rest), drift: uint64(drift), highest: new(big.Int)}
	p.still()
	return p
}

// still checks what can be told of the clock at any moment, and P5.3 with it (times never go back: the greatest is the last one).
func (p *pair) still() {
	p.t.Helper()
	if p.c.Time() != p.m.time.Uint64() || p.c.Last() != p.m.last {
		p.t.Fatalf("time %d, last %v, not %v, %v", p.c.Time(), p.c.Last(), p.m.time, p.m.last)
	}
	if p.c.Last().Phys > p.c.Time()+p.drift {
		p.t.Fatalf("last %v at the time %d, drift %d", p.c.Last(), p.c.Time(), p.drift)
	}
}

func (p *pair) pass(n int) {
	p.t.Helper()
	p.c.Pass(n)
	p.m.pass(n)
	p.still()
}

// now checks the clock's Now, and P5.2 with it.
func (p *pair) now() (api.Stamp, api.Errno) {
	p.t.Helper()
	s, e := p.c.Now()
	if want, wantE := p.m.now(); s != want || e != wantE {
		p.t.Fatalf("Now at %d: %v, %d, not %v, %d", p.c.Time(), s, e, want, wantE)
	}
	if e == api.OK {
		if weight(s).Cmp(p.highest) <= 0 {
			p.t.Fatalf("Now: %v doesn't stand behind all that was given and taken", s)
		}
		p.highest = weight(s)
	}
	p.still()
	return s, e
}

func (p *pair) see(s api.Stamp) api.Errno {
	p.t.Helper()
	e := p.c.See(s)
	if want := p.m.see(s); e != want {
		p.t.Fatalf("See(%v) at %d, drift %d: %d, not %d", s, p.c.Time(), p.drift, e, want)
	}
	if w := weight(s); e == api.OK && w.Cmp(p.highest) > 0 {
		p.highest = w
	}
	p.still()
	return e
}

func wantNow(t *testing.T, c *Clock, want api.Stamp, wantE api.Errno) {
	t.Helper()
	if s, e := c.Now(); s != want || e != wantE {
		t.Errorf("Now at %d: %v, %d, not %v, %d", c.Time(), s, e, want, wantE)
	}
}

func wantSee(t *testing.T, c *Clock, s api.Stamp, want api.Errno) {
	t.Helper()
	if e := c.See(s); e != want {
		t.Errorf("See(%v) at %d: %d, not %d", s, c.Time(), e, want)
	}
}

func wantStill(t *testing.T, c *Clock, time uint64, last api.Stamp) {
	t.Helper()
	if c.Time() != time || c.Last() != last {
		t.Errorf("time %d, last %v, not %d, %v", c.Time(), c.Last(), time, last)
	}
}

// P5.1: the chapter's examples.
func TestExamples(t *testing.T) {
	c := made(t, 3, 10, 2, false)
	wantStill(t, c, 10, api.Stamp{})
	wantNow(t, c, api.Stamp{Phys: 10, Node: 3}, api.OK)
	wantNow(t, c, api.Stamp{Phys: 10, Logical: 1, Node: 3}, api.OK)
	wantSee(t, c, api.Stamp{Phys: 12, Logical: 5, Node: 9}, api.OK)
	wantStill(t, c, 10, api.Stamp{Phys: 12, Logical: 5, Node: 9})
	wantNow(t, c, api.Stamp{Phys: 12, Logical: 6, Node: 3}, api.OK)
	wantSee(t, c, api.Stamp{Phys: 13}, api.ErrDrift)
	wantStill(t, c, 10, api.Stamp{Phys: 12, Logical: 6, Node: 3})
}

// P5.1: stamps in their order, so that each one's place tells how it stands to each other one.
func TestCompare(t *testing.T) {
	var l []api.Stamp
	for _, phys := range []uint64{0, 1, 255, 256, 1 << 32, lastTime, lastTime + 1, 1 << 63, math.MaxUint64} {
		for _, logical := range []uint32{0, 1, 256, 1 << 31, lastLogical - 1, lastLogical} {
			for _, node := range []uint8{0, 1, 63, 64, 128, 255} {
				l = append(l, api.Stamp{Phys: phys, Logical: logical, Node: node})
			}
		}
	}
	for i, a := range l {
		for k, b := range l {
			want := 0
			if i < k {
				want = -1
			} else if i > k {
				want = 1
			}
			if got := Compare(a, b); got != want || got != weight(a).Cmp(weight(b)) {
				t.Fatalf("Compare(%v, %v): %d, not %d", a, b, got, want)
			}
		}
	}
}

// P5.1: stamps that differ in one part alone, and in several, one against the other.
func TestCompareParts(t *testing.T) {
	for _, x := range []struct {
		name string
		a, b api.Stamp
		want int
	}{
		{"the same", api.Stamp{Phys: 1, Logical: 2, Node: 3}, api.Stamp{Phys: 1, Logical: 2, Node: 3}, 0},
		{"none", api.Stamp{}, api.Stamp{}, 0},
		{"Phys", api.Stamp{Phys: 1, Logical: 2, Node: 3}, api.Stamp{Phys: 2, Logical: 2, Node: 3}, -1},
		{"Logical", api.Stamp{Phys: 1, Logical: 2, Node: 3}, api.Stamp{Phys: 1, Logical: 3, Node: 3}, -1},
		{"Node", api.Stamp{Phys: 1, Logical: 2, Node: 3}, api.Stamp{Phys: 1, Logical: 2, Node: 4}, -1},
		{"Phys against Logical", api.Stamp{Phys: 1, Logical: 9, Node: 3}, api.Stamp{Phys: 2, Logical: 2, Node: 3}, -1},
		{"Phys against Node", api.Stamp{Phys: 1, Logical: 2, Node: 9}, api.Stamp{Phys: 2, Logical: 2, Node: 3}, -1},
		{"Logical against Node", api.Stamp{Phys: 1, Logical: 2, Node: 9}, api.Stamp{Phys: 1, Logical: 3, Node: 3}, -1},
		{"Phys against both", api.Stamp{Phys: 1, Logical: lastLogical, Node: 63}, api.Stamp{Phys: 2}, -1},
	} {
		if got, back := Compare(x.a, x.b), Compare(x.b, x.a); got != x.want || back != -x.want {
			t.Errorf("%s: %d and %d, not %d", x.name, got, back, x.want)
		}
	}
}

// P5.1: New at every node, and at the edges of times and drifts.
func TestNewArguments(t *testing.T) {
	for i := range 256 {
		for _, time := range []uint64{0, 1, lastTime - 1, lastTime, lastTime + 1, 1 << 63, math.MaxUint64} {
			for _, drift := range []int{math.MinInt, -1000, -1, 0, 1, 999, 1000, 1001, math.MaxInt} {
				may := i <= 63 && time <= lastTime && drift >= 0 && drift <= 1000
				for _, rest := range []bool{false, true} {
					c, e := New(uint8(i), time, drift, rest)
					if may && (c == nil || e != api.OK) || !may && (c != nil || e != api.ErrArg) {
						t.Fatalf("New(%d, %d, %d, %t): %d", i, time, drift, rest, e)
					}
					if may {
						wantStill(t, c, time, api.Stamp{})
					}
				}
			}
		}
	}
}

// P5.1: the clock gives its own node, whoever's stamp it has seen.
func TestOwnNode(t *testing.T) {
	for node := range uint8(64) {
		c := made(t, node, 7, 3, false)
		wantNow(t, c, api.Stamp{Phys: 7, Node: node}, api.OK)
		wantSee(t, c, api.Stamp{Phys: 9, Node: 63 - node}, api.OK)
		wantNow(t, c, api.Stamp{Phys: 9, Logical: 1, Node: node}, api.OK)
	}
}

// P5.1: at the time 0 the first stamp of all isn't above the last one.
func TestNowAtZero(t *testing.T) {
	c := made(t, 5, 0, 0, false)
	wantNow(t, c, api.Stamp{Logical: 1, Node: 5}, api.OK)
	wantNow(t, c, api.Stamp{Logical: 2, Node: 5}, api.OK)
	c.Pass(1)
	wantNow(t, c, api.Stamp{Phys: 1, Node: 5}, api.OK)
}

// P5.1: Pass of nothing, of less, and past the end.
func TestPass(t *testing.T) {
	for _, x := range []struct {
		time uint64
		n    int
		want uint64
	}{
		{10, 0, 10}, {10, -1, 10}, {10, math.MinInt, 10}, {0, -1, 0}, {0, 0, 0},
		{10, 1, 11}, {10, 1000, 1010}, {0, 1 << 31, 1 << 31}, {10, 1 << 40, 1<<40 + 10},
		{0, lastTime - 1, lastTime - 1}, {0, lastTime, lastTime}, {0, lastTime + 1, lastTime}, {1, lastTime, lastTime},
		{lastTime - 1, 1, lastTime}, {lastTime - 1, 2, lastTime}, {lastTime, 0, lastTime}, {lastTime, -1, lastTime}, {lastTime, 1, lastTime},
		{0, math.MaxInt, lastTime}, {lastTime, math.MaxInt, lastTime},
	} {
		c := made(t, 3, x.time, 0, false)
		c.Pass(x.n)
		wantStill(t, c, x.want, api.Stamp{})
		c.Pass(0)
		c.Pass(-1)
		wantStill(t, c, x.want, api.Stamp{})
		for range 5 {
			c.Pass(math.MaxInt)
		}
		wantStill(t, c, lastTime, api.Stamp{})
	}
}

// P5.1: a last stamp with the greatest Logical, or one less, whose Phys is below the time, at it and above it.
func TestNowAtMaxLogical(t *testing.T) {
	for _, x := range []struct {
		name    string
		phys    uint64
		logical uint32
		want    api.Stamp
		wantE   api.Errno
	}{
		{"below the time", 99, lastLogical, api.Stamp{Phys: 100, Node: 3}, api.OK},
		{"at the time", 100, lastLogical, api.Stamp{}, api.ErrFull},
		{"one above the time", 101, lastLogical, api.Stamp{}, api.ErrFull},
		{"at the time and the drift", 105, lastLogical, api.Stamp{}, api.ErrFull},
		{"below the time, one less", 99, lastLogical - 1, api.Stamp{Phys: 100, Node: 3}, api.OK},
		{"at the time, one less", 100, lastLogical - 1, api.Stamp{Phys: 100, Logical: lastLogical, Node: 3}, api.OK},
		{"above the time, one less", 105, lastLogical - 1, api.Stamp{Phys: 105, Logical: lastLogical, Node: 3}, api.OK},
	} {
		c := made(t, 3, 100, 5, false)
		seen := api.Stamp{Phys: x.phys, Logical: x.logical, Node: 63}
		wantSee(t, c, seen, api.OK)
		if s, e := c.Now(); s != x.want || e != x.wantE {
			t.Errorf("%s: %v, %d, not %v, %d", x.name, s, e, x.want, x.wantE)
		}
		if x.wantE != api.OK {
			wantStill(t, c, 100, seen)
		}
	}
}

// P5.1: full, the clock stays so till its time is above the last stamp's, and not longer.
func TestFullUntilTimePasses(t *testing.T) {
	c := made(t, 3, 100, 5, false)
	wantSee(t, c, api.Stamp{Phys: 103, Logical: lastLogical - 1, Node: 9}, api.OK)
	wantNow(t, c, api.Stamp{Phys: 103, Logical: lastLogical, Node: 3}, api.OK)
	for range 4 {
		wantNow(t, c, api.Stamp{}, api.ErrFull)
		wantNow(t, c, api.Stamp{}, api.ErrFull)
		c.Pass(1)
	}
	wantNow(t, c, api.Stamp{Phys: 104, Node: 3}, api.OK)
	wantNow(t, c, api.Stamp{Phys: 104, Logical: 1, Node: 3}, api.OK)
}

// P5.1: at the end of all time, stamps go on by Logical, then never again.
func TestEndOfTime(t *testing.T) {
	c := made(t, 3, lastTime, 0, false)
	wantNow(t, c, api.Stamp{Phys: lastTime, Node: 3}, api.OK)
	c.Pass(1)
	wantNow(t, c, api.Stamp{Phys: lastTime, Logical: 1, Node: 3}, api.OK)
	wantSee(t, c, api.Stamp{Phys: lastTime + 1}, api.ErrDrift)
	wantSee(t, c, api.Stamp{Phys: lastTime, Logical: lastLogical}, api.OK)
	wantNow(t, c, api.Stamp{}, api.ErrFull)
	c.Pass(math.MaxInt)
	wantNow(t, c, api.Stamp{}, api.ErrFull)

	// The drift alone bounds what is seen: the words name no other end.
	c = made(t, 3, lastTime, 1000, false)
	wantSee(t, c, api.Stamp{Phys: lastTime + 1001}, api.ErrDrift)
	wantSee(t, c, api.Stamp{Phys: lastTime + 1000, Node: 4}, api.OK)
	wantNow(t, c, api.Stamp{Phys: lastTime + 1000, Logical: 1, Node: 3}, api.OK)
}

// P5.1: at each time from its beginning to well behind its rest, a clock of its own, and one that goes on.
func TestRestEdges(t *testing.T) {
	for _, time := range []uint64{0, 1, 100, lastTime - 2000} {
		for _, drift := range []int{0, 1, 5, 1000} {
			goesOn := made(t, 1, time, drift, true)
			for by := range drift + 3 {
				c := made(t, 1, time, drift, true)
				c.Pass(by)
				at := time + uint64(by)
				want, wantE := api.Stamp{Phys: at, Node: 1}, api.OK
				if by <= drift {
					want, wantE = api.Stamp{}, api.ErrBusy
				}
				wantNow(t, c, want, wantE)
				wantNow(t, goesOn, want, wantE)
				wantStill(t, c, at, want)
				wantStill(t, goesOn, at, want)
				goesOn.Pass(1)
			}
		}
	}
}

// P5.1: near the end of time the rest never ends, if it would end behind it.
func TestRestAtTheEnd(t *testing.T) {
	for _, x := range []struct {
		time  uint64
		drift int
		want  api.Errno
	}{
		{lastTime, 0, api.ErrBusy}, {lastTime, 1000, api.ErrBusy}, {lastTime - 1, 0, api.OK}, {lastTime - 1, 1, api.ErrBusy},
		{lastTime - 6, 5, api.OK}, {lastTime - 5, 5, api.ErrBusy}, {lastTime - 1001, 1000, api.OK}, {lastTime - 1000, 1000, api.ErrBusy},
	} {
		c := made(t, 1, x.time, x.drift, true)
		c.Pass(math.MaxInt)
		if s, e := c.Now(); e != x.want || (s == api.Stamp{}) != (e != api.OK) {
			t.Errorf("from %d, drift %d: %v, %d, not %d", x.time, x.drift, s, e, x.want)
		}
	}
}

// P5.1: a clock that rests sees all the same, and being busy comes ahead of being full.
func TestRestSees(t *testing.T) {
	c := made(t, 1, 100, 5, true)
	wantSee(t, c, api.Stamp{Phys: 106}, api.ErrDrift)
	wantSee(t, c, api.Stamp{Phys: 105, Logical: 7, Node: 2}, api.OK)
	wantNow(t, c, api.Stamp{}, api.ErrBusy)
	wantStill(t, c, 100, api.Stamp{Phys: 105, Logical: 7, Node: 2})
	c.Pass(5)
	wantSee(t, c, api.Stamp{Phys: 110, Logical: lastLogical, Node: 2}, api.OK)
	wantNow(t, c, api.Stamp{}, api.ErrBusy)
	c.Pass(1)
	wantNow(t, c, api.Stamp{}, api.ErrFull)
	c.Pass(5)
	wantNow(t, c, api.Stamp{Phys: 111, Node: 1}, api.OK)
}

// P5.1: a clock that doesn't have to rest doesn't.
func TestNoRest(t *testing.T) {
	for _, time := range []uint64{1, 100, lastTime} {
		for _, drift := range []int{0, 5, 1000} {
			wantNow(t, made(t, 1, time, drift, false), api.Stamp{Phys: time, Node: 1}, api.OK)
		}
	}
}

// P5.1: what See takes and refuses, and what the last stamp is then.
func TestSee(t *testing.T) {
	last := api.Stamp{Phys: 100, Logical: 5, Node: 9}
	for _, x := range []struct {
		name  string
		s     api.Stamp
		want  api.Errno
		taken bool
	}{
		{"at the time and the drift", api.Stamp{Phys: 102}, api.OK, true},
		{"one above it", api.Stamp{Phys: 103}, api.ErrDrift, false},
		{"far above it", api.Stamp{Phys: 1 << 47}, api.ErrDrift, false},
		{"one that would wrap round", api.Stamp{Phys: math.MaxUint64}, api.ErrDrift, false},
		{"node 63", api.Stamp{Phys: 101, Node: 63}, api.OK, true},
		{"node 64", api.Stamp{Phys: 101, Node: 64}, api.ErrDrift, false},
		{"node 255", api.Stamp{Phys: 101, Node: 255}, api.ErrDrift, false},
		{"node 64, ahead of the last", api.Stamp{Phys: 1, Node: 64}, api.ErrDrift, false},
		{"node 64 and one above", api.Stamp{Phys: 103, Node: 64}, api.ErrDrift, false},
		{"node 63 and one above", api.Stamp{Phys: 103, Node: 63}, api.ErrDrift, false},
		{"the last itself", last, api.OK, true},
		{"none", api.Stamp{}, api.OK, false},
		{"behind by Phys alone", api.Stamp{Phys: 101, Logical: 5, Node: 9}, api.OK, true},
		{"behind by Logical alone", api.Stamp{Phys: 100, Logical: 6, Node: 9}, api.OK, true},
		{"behind by Node alone", api.Stamp{Phys: 100, Logical: 5, Node: 10}, api.OK, true},
		{"ahead by Phys alone", api.Stamp{Phys: 99, Logical: 5, Node: 9}, api.OK, false},
		{"ahead by Logical alone", api.Stamp{Phys: 100, Logical: 4, Node: 9}, api.OK, false},
		{"ahead by Node alone", api.Stamp{Phys: 100, Logical: 5, Node: 8}, api.OK, false},
		{"ahead by Phys, behind by the rest", api.Stamp{Phys: 99, Logical: lastLogical, Node: 63}, api.OK, false},
		{"ahead by Logical, behind by Node", api.Stamp{Phys: 100, Logical: 4, Node: 63}, api.OK, false},
		{"behind by Logical, ahead by Node", api.Stamp{Phys: 100, Logical: 6}, api.OK, true},
	} {
		c := made(t, 3, 100, 2, false)
		wantSee(t, c, last, api.OK)
		after := last
		if x.taken {
			after = x.s
		}
		if e := c.See(x.s); e != x.want || c.Last() != after || c.Time() != 100 {
			t.Errorf("%s: %d, time %d, last %v, not %d, %v", x.name, e, c.Time(), c.Last(), x.want, after)
		}
	}
}

// P5.1: See's bound at each drift, and as the time goes by.
func TestSeeBound(t *testing.T) {
	for _, time := range []uint64{0, 1, 100, lastTime - 1001} {
		for _, drift := range []int{0, 1, 2, 999, 1000} {
			c := made(t, 3, time, drift, false)
			for by := range uint64(4) {
				bound := time + by + uint64(drift)
				wantSee(t, c, api.Stamp{Phys: bound + 1}, api.ErrDrift)
				wantSee(t, c, api.Stamp{Phys: bound, Logical: 1}, api.OK)
				wantStill(t, c, time+by, api.Stamp{Phys: bound, Logical: 1})
				c.Pass(1)
			}
		}
	}
}

// P5.1: nothing is a nil clock's to give or to take, and it ends.
func TestNilClock(t *testing.T) {
	var none *Clock
	for _, n := range []int{math.MinInt, -1, 0, 1, math.MaxInt} {
		none.Pass(n)
	}
	wantStill(t, none, 0, api.Stamp{})
	wantNow(t, none, api.Stamp{}, api.ErrArg)
	for _, s := range []api.Stamp{{}, {Phys: 1}, {Node: 64}, {Phys: math.MaxUint64, Logical: lastLogical, Node: 255}} {
		wantSee(t, none, s, api.ErrArg)
	}
	wantStill(t, none, 0, api.Stamp{})
}

// P5.1, by R6: after each error the clock goes on as if it hadn't been asked.
func TestErrorsChangeNothing(t *testing.T) {
	for _, rest := range []bool{false, true} {
		asked, other := made(t, 3, 100, 5, rest), made(t, 3, 100, 5, rest)
		for i := range 20 {
			asked.See(api.Stamp{Phys: asked.Time() + 6, Node: 4})
			asked.See(api.Stamp{Phys: asked.Time(), Node: 64})
			if i < 6 && rest {
				wantNow(t, asked, api.Stamp{}, api.ErrBusy)
			} else {
				s, e := other.Now()
				wantNow(t, asked, s, e)
			}
			wantStill(t, asked, other.Time(), other.Last())
			asked.Pass(1)
			other.Pass(1)
		}
	}
}

// P5.1, by R2: clocks are of their own.
func TestClocksOfTheirOwn(t *testing.T) {
	a, b := made(t, 1, 10, 2, false), made(t, 2, 20, 0, false)
	a.Pass(5)
	wantSee(t, a, api.Stamp{Phys: 17, Logical: 3}, api.OK)
	wantStill(t, b, 20, api.Stamp{})
	wantNow(t, b, api.Stamp{Phys: 20, Node: 2}, api.OK)
	wantNow(t, a, api.Stamp{Phys: 17, Logical: 4, Node: 1}, api.OK)
	wantSee(t, b, api.Stamp{Phys: 21}, api.ErrDrift)
	wantStill(t, a, 15, api.Stamp{Phys: 17, Logical: 4, Node: 1})
}

// shortCalls is how many calls there are of which short rows are made.
const shortCalls = 7

func (p *pair) shortCall(i int) {
	p.t.Helper()
	time := p.c.Time()
	switch i {
	case 0:
		p.now()
	case 1:
		p.pass(1)
	case 2:
		p.pass(2)
	case 3:
		p.see(api.Stamp{Phys: time + p.drift, Logical: 1, Node: 2})
	case 4:
		p.see(api.Stamp{Phys: time + p.drift + 1})
	case 5:
		p.see(api.Stamp{Phys: time, Logical: lastLogical, Node: 63})
	case 6:
		p.see(api.Stamp{Phys: time, Logical: 1, Node: 64})
	}
}

// P5.1 to P5.3: every row of five calls, of clocks that rest and that don't.
func TestEveryShortRow(t *testing.T) {
	const size = 5
	rows := 1
	for range size {
		rows *= shortCalls
	}
	for _, time := range []uint64{0, 10, lastTime - 3} {
		for drift := range 3 {
			for row := range 2 * rows {
				p := newPair(t, 1, time, drift, row >= rows)
				for left, i := row%rows, 0; i < size; i++ {
					p.shortCall(left % shortCalls)
					left /= shortCalls
				}
			}
		}
	}
}

// near is a stamp around what a clock takes: by its time, its drift, its last stamp, and anywhere.
func near(r *rand.Rand, c *Clock, drift uint64) api.Stamp {
	s := api.Stamp{Logical: []uint32{0, 1, r.Uint32N(9), r.Uint32(), lastLogical - 1, lastLogical}[r.IntN(6)], Node: uint8(r.IntN(66))}
	switch r.IntN(6) {
	case 0:
		s.Phys = c.Time() + drift
	case 1:
		s.Phys = c.Time() + drift + 1
	case 2:
		s.Phys = c.Time() + r.Uint64N(drift+2)
	case 3:
		s.Phys = c.Time() - min(c.Time(), r.Uint64N(5))
	case 4:
		s.Phys = r.Uint64() >> r.IntN(64)
	case 5:
		s = c.Last()
		s.Logical += r.Uint32N(3) - 1
		s.Node += uint8(r.IntN(3)) - 1
	}
	return s
}

// told is a stamp that a call gave or took, or neither.
type told struct {
	s           api.Stamp
	gave, taken bool
}

// someCall is any call, by steps of time that are mostly as small as asked.
func (p *pair) someCall(r *rand.Rand, steps int) told {
	p.t.Helper()
	switch r.IntN(4) {
	case 0:
		p.pass(r.IntN(steps+2) - 1)
		return told{}
	case 1:
		s := near(r, p.c, p.drift)
		return told{s: s, taken: p.see(s) == api.OK}
	default:
		s, e := p.now()
		return told{s: s, gave: e == api.OK}
	}
}

func someDrift(r *rand.Rand) int { return []int{0, 1, 2, r.IntN(20), r.IntN(1001), 1000}[r.IntN(6)] }

func someTime(r *rand.Rand) uint64 {
	return []uint64{0, 1, r.Uint64N(1000), r.Uint64N(lastTime), lastTime - r.Uint64N(2000), lastTime}[r.IntN(6)]
}

// P5.1 to P5.3: long rows of calls of every kind, held against the reckoning.
func TestLongRows(t *testing.T) {
	r := rand.New(rand.NewPCG(5, 1))
	count := map[api.Errno]int{}
	for range 400 {
		p := newPair(t, uint8(r.IntN(64)), someTime(r), someDrift(r), r.IntN(2) == 0)
		steps := []int{1, 3, 50, 1000, math.MaxInt - 2}[r.IntN(5)]
		for range 500 {
			p.someCall(r, steps)
			_, e := p.now()
			count[e]++
			count[p.see(near(r, p.c, p.drift))]++
		}
	}
	for _, e := range []api.Errno{api.OK, api.ErrBusy, api.ErrFull, api.ErrDrift} {
		if count[e] < 100 {
			t.Errorf("the rows answered %d only %d times", e, count[e])
		}
	}
}

// P5.2: stamps that clocks give each other, at times that go apart, rise on each of them.
func TestForwardAmongClocks(t *testing.T) {
	r := rand.New(rand.NewPCG(5, 2))
	var clocks []*pair
	for node := range uint8(8) {
		clocks = append(clocks, newPair(t, node, 50+uint64(node), 10, false))
	}
	given := map[api.Stamp]int{}
	for range 20000 {
		p, q := clocks[r.IntN(8)], clocks[r.IntN(8)]
		s, e := p.now()
		if e != api.OK {
			t.Fatalf("Now: %d", e)
		}
		given[s]++
		q.see(s)
		clocks[r.IntN(8)].pass(r.IntN(2))
	}
	for s, n := range given {
		if n > 1 {
			t.Fatalf("%v was given %d times", s, n)
		}
	}
}

// P5.3: seen at its bound again and again, without time going by, the last stamp stays within it.
func TestBoundedWithoutTime(t *testing.T) {
	for _, drift := range []int{0, 1, 1000} {
		c := made(t, 3, 100, drift, false)
		for range 1000 {
			c.See(api.Stamp{Phys: c.Last().Phys + 1, Logical: 2})
			c.See(api.Stamp{Phys: c.Time() + uint64(drift)})
			c.Now()
			if c.Last().Phys > 100+uint64(drift) {
				t.Fatalf("drift %d: last %v", drift, c.Last())
			}
		}
	}
}

// P5.4: the edge: the former life took the last stamp that it may, and gave one behind it, at the moment of its end.
func TestBehindFormerLifeEdge(t *testing.T) {
	for _, drift := range []int{0, 1, 5, 1000} {
		former := made(t, 4, 100, drift, false)
		wantSee(t, former, api.Stamp{Phys: 100 + uint64(drift), Logical: lastLogical - 1, Node: 63}, api.OK)
		most, e := former.Now()
		if e != api.OK {
			t.Fatalf("Now: %d", e)
		}
		c := made(t, 4, former.Time(), drift, true)
		for range drift + 1 {
			wantNow(t, c, api.Stamp{}, api.ErrBusy)
			c.Pass(1)
		}
		if s, e := c.Now(); e != api.OK || Compare(most, s) != -1 {
			t.Errorf("drift %d: %v, %d doesn't stand behind %v", drift, s, e, most)
		}
	}
}

// P5.4: lives one behind the other, of rows of calls of every kind: what a life gives stands behind all that those ahead of it gave and took.
func TestBehindFormerLives(t *testing.T) {
	r := rand.New(rand.NewPCG(5, 4))
	gave, taken := 0, 0
	for range 300 {
		drift, most := []int{0, 1, 3, 20}[r.IntN(4)], new(big.Int)
		time, rest := r.Uint64N(1000), false
		for range 6 {
			p, former := newPair(t, uint8(r.IntN(64)), time, drift, rest), most
			for range 60 {
				x := p.someCall(r, 2+drift/4)
				if x.gave && weight(x.s).Cmp(former) <= 0 {
					t.Fatalf("drift %d: %v doesn't stand behind a former life", drift, x.s)
				}
				if x.gave {
					gave++
				}
				if x.taken {
					taken++
				}
				if w := weight(x.s); (x.gave || x.taken) && w.Cmp(most) > 0 {
					most = w
				}
			}
			time, rest = p.c.Time(), true
		}
	}
	if gave < 10000 || taken < 10000 {
		t.Errorf("only %d stamps were given, and %d taken", gave, taken)
	}
}
