package count

import (
	"fmt"
	"runtime"
	"slices"
	"sync"
	"sync/atomic"
	"testing"

	"tattler/api"
)

// together runs the work of so many goroutines, lets them begin at once, and joins them.
func together(workers int, work func(worker int)) {
	begin := make(chan struct{})
	var all sync.WaitGroup
	for worker := range workers {
		all.Go(func() {
			<-begin
			work(worker)
		})
	}
	close(begin)
	all.Wait()
}

// turns is how often each goroutine does its work.
func turns() int {
	if testing.Short() {
		return 2000
	}
	return 20000
}

// P23.3: of what many add at once nothing is lost, and none is counted twice.
func TestManyAdd(t *testing.T) {
	for _, workers := range []int{1, 2, 3, 8, 32} {
		c := newCounts(t, "z", "each", "a", "much")
		together(workers, func(worker int) {
			for range turns() {
				if !c.Add("each", 1) || !c.Add("much", uint64(worker)<<32+1) || c.Add("none", 1) {
					t.Error("Add doesn't tell whether there is such a count")
				}
			}
		})
		each := uint64(workers * turns())
		much := uint64(workers*(workers-1)/2*turns())<<32 + each
		want := []api.Stat{{Name: "z"}, {Name: "each", Value: each}, {Name: "a"}, {Name: "much", Value: much}}
		if got := c.All(); !slices.Equal(got, want) {
			t.Errorf("%d at once: %v, not %v", workers, got, want)
		}
		if c.Get("each") != each || c.Get("much") != much {
			t.Errorf("%d at once: %d, %d", workers, c.Get("each"), c.Get("much"))
		}
		if got := c.Reset(); !slices.Equal(got, want) {
			t.Errorf("%d at once: Reset is %v, not %v", workers, got, want)
		}
	}
}

// P23.3: each goroutine has a count of its own, and those beside it are others': none gets what is another's.
func TestManyNames(t *testing.T) {
	const workers = 16
	names, want := make([]string, workers), make([]api.Stat, workers)
	for i := range names {
		names[i] = fmt.Sprint("count ", i)
		want[i] = api.Stat{Name: names[i], Value: uint64(i * turns())}
	}
	c := newCounts(t, names...)
	together(workers, func(worker int) {
		for i := range turns() {
			c.Add(names[worker], uint64(worker))
			if n := c.Get(names[worker]); n != uint64((i+1)*worker) {
				t.Errorf("%d: %d behind %d", worker, n, i+1)
				return
			}
		}
	})
	if got := c.All(); !slices.Equal(got, want) {
		t.Errorf("%v, not %v", got, want)
	}
}

// P23.2: a count that many add to comes to its bound and stays there: it is at no moment less than it was.
func TestManyAtTheTop(t *testing.T) {
	for _, step := range []uint64{1, 2, 1 << 20, 1 << 62, 1 << 63, top - 1, top} {
		for round := range turns() / 100 {
			c := newCounts(t, "a", "b")
			begin := top - min(top, 300*min(step, 1<<50))
			c.Add("a", begin)
			c.Add("b", uint64(round))
			together(4, func(worker int) { climb(t, c, begin, step) })
			if c.Get("a") != top || c.Get("b") != uint64(round) {
				t.Fatalf("step %d: %v", step, c.All())
			}
		}
	}
}

// climb adds, and looks behind each step. Four of them come to the bound behind half of all their steps, where these are small, else at once.
func climb(t *testing.T, c *Counts, was, step uint64) {
	for range 150 {
		c.Add("a", step)
		now := c.Get("a")
		if now < was || now < step {
			t.Errorf("step %d: it was %d, and is %d", step, was, now)
			return
		}
		was = now
	}
}

// P23.2: who watches while others add never sees a count that is less than it was, and All has all names in their order at each moment.
func TestManyWatch(t *testing.T) {
	names := []string{"z", "a", "m"}
	c := newCounts(t, names...)
	together(6, func(worker int) {
		var was [3]uint64
		for i := range turns() {
			if worker < 3 {
				c.Add(names[(worker+i)%3], 1<<44)
				continue
			}
			l := c.All()
			if len(l) != 3 {
				t.Errorf("All is %v", l)
				return
			}
			for at, x := range l {
				if x.Name != names[at] || x.Value < was[at] || x.Value%(1<<44) != 0 {
					t.Errorf("it was %d, and is %v", was, l)
					return
				}
				was[at] = x.Value
			}
		}
	})
	var sum uint64
	for _, x := range c.All() {
		sum += x.Value
	}
	if want := uint64(3*turns()) << 44; sum != want {
		t.Errorf("%d, not %d", sum, want)
	}
}

// P23.3: while many add, one Resets, or several do: what these answered and what is left is together what was added.
func TestManyReset(t *testing.T) {
	names := []string{"b", "a", "c"}
	for _, resetters := range []int{1, 3} {
		c := newCounts(t, names...)
		told := make([][3]uint64, resetters)
		var resets [3]int
		const adders = 5
		together(adders+resetters, func(worker int) {
			if worker < adders {
				for i := range turns() {
					c.Add(names[i%2], uint64(1+worker))
				}
				return
			}
			mine := worker - adders
			for range turns() {
				l := c.Reset()
				if len(l) != 3 {
					t.Errorf("Reset is %v", l)
					return
				}
				for at, x := range l {
					if x.Name != names[at] {
						t.Errorf("Reset is %v", l)
					}
					told[mine][at] += x.Value
					if x.Value > 0 {
						resets[mine]++
					}
				}
			}
		})
		each := uint64(turns() / 2 * (1 + 2 + 3 + 4 + 5))
		for at, want := range []uint64{each, each, 0} {
			sum := c.Get(names[at])
			for _, l := range told {
				sum += l[at]
			}
			if sum != want {
				t.Errorf("%q: %d are told, %d were added", names[at], sum, want)
			}
		}
		t.Logf("%d resets answered something", resets)
	}
}

// P23.3: Counts side by side, each used by goroutines of its own and by common ones.
func TestManySideBySide(t *testing.T) {
	a, b := newCounts(t, "x", "y"), newCounts(t, "y", "x")
	together(8, func(worker int) {
		for range turns() {
			a.Add("x", 1)
			b.Add("x", 2)
			if worker%2 == 0 {
				a.Add("y", 3)
			} else {
				b.Add("y", 4)
			}
		}
	})
	n := uint64(turns())
	if got, want := a.All(), []api.Stat{{Name: "x", Value: 8 * n}, {Name: "y", Value: 12 * n}}; !slices.Equal(got, want) {
		t.Errorf("%v, not %v", got, want)
	}
	if got, want := b.Reset(), []api.Stat{{Name: "y", Value: 16 * n}, {Name: "x", Value: 16 * n}}; !slices.Equal(got, want) {
		t.Errorf("%v, not %v", got, want)
	}
	if a.Get("x") != 8*n || b.Get("x") != 0 {
		t.Error(a.All(), b.All())
	}
}

// R1: nil Counts answer many goroutines, too.
func TestManyNil(t *testing.T) {
	var c *Counts
	together(4, func(worker int) {
		for range 100 {
			if c.Add("a", 1) || c.Get("a") != 0 || len(c.All()) != 0 || len(c.Reset()) != 0 {
				t.Error("nil Counts have something")
			}
		}
	})
}

// atOnce is a call that is done at the same time as two others, and what it answered.
type atOnce struct {
	kind   int
	n      uint64
	answer uint64
}

const (
	callAdd = iota
	callGet
	callAll
	callReset
)

func (x *atOnce) do(c *Counts) {
	switch x.kind {
	case callAdd:
		x.answer = 0
		if c.Add("a", x.n) {
			x.answer = 1
		}
	case callGet:
		x.answer = c.Get("a")
	case callAll:
		x.answer = c.All()[0].Value
	case callReset:
		x.answer = c.Reset()[0].Value
	}
}

// follows is what the count is behind the call, and whether the answer is that of a count which was so much.
func (x *atOnce) follows(was uint64) (uint64, bool) {
	switch x.kind {
	case callAdd:
		return capped(was, x.n), x.answer == 1
	case callReset:
		return 0, x.answer == was
	}
	return was, x.answer == was
}

// inSomeOrder tells whether the calls answered what they answer one behind the other, in one order at least.
func inSomeOrder(calls [3]atOnce, was, end uint64) bool {
	for _, order := range [][]int{{0, 1, 2}, {0, 2, 1}, {1, 0, 2}, {1, 2, 0}, {2, 0, 1}, {2, 1, 0}} {
		now, right := was, true
		for _, i := range order {
			next, so := calls[i].follows(now)
			now, right = next, right && so
		}
		if right && now == end {
			return true
		}
	}
	return false
}

// meeting is where three goroutines wait for one another, so that they go on at the same moment.
type meeting struct{ came atomic.Int64 }

func (m *meeting) wait(turn int) {
	m.came.Add(1)
	for spins := 0; m.came.Load() < int64(3*turn); spins++ {
		if spins > 100 {
			runtime.Gosched()
		}
	}
}

// P23.1, P23.2 and P23.3: three calls at the same moment, near the bound too, are as if they were one behind the other.
func TestManyInSomeOrder(t *testing.T) {
	d := newDice(1)
	c := newCounts(t, "a")
	var m meeting
	var calls [3]atOnce
	var was uint64
	prepare := func() {
		c.Reset()
		was = one[uint64](d, 0, 7, top-9, top-5, top-1, top)
		c.Add("a", was)
		for i := range calls {
			calls[i] = atOnce{kind: one(d, callAdd, callAdd, callAdd, callReset, callGet, callAll), n: one[uint64](d, 1, 3, 4, 5, 8, 1<<63, top-4)}
		}
	}
	prepare()
	rounds := 5 * turns()
	together(3, func(worker int) {
		for round := range rounds {
			m.wait(2*round + 1)
			calls[worker].do(c)
			m.wait(2*round + 2)
			if worker == 0 {
				if end := c.Get("a"); !inSomeOrder(calls, was, end) {
					t.Errorf("%v at once of %d: %d", calls, was, end)
				}
				prepare()
			}
		}
	})
}
