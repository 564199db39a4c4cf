package lru

import (
	"fmt"
	"math"
	"math/rand/v2"
	"slices"
	"testing"

	"tattler/api"
)

// model is a list that is reckoned apart from the program: each number that is there has the moment of its last use, and their order is got by sorting.
type model struct {
	n, moment int
	used      map[int]int
}

func newModel(n int) *model { return &model{n: n, used: map[int]int{}} }

func (m *model) use(i int) api.Errno {
	if i < 0 || i >= m.n {
		return 1
	}
	m.moment++
	m.used[i] = m.moment
	return 0
}

func (m *model) drop(i int) bool {
	_, there := m.used[i]
	delete(m.used, i)
	return there
}

func (m *model) oldest() (int, bool) {
	least, oldest := math.MaxInt, 0
	for i, moment := range m.used {
		if moment < least {
			least, oldest = moment, i
		}
	}
	return oldest, len(m.used) > 0
}

func (m *model) order() []int {
	var l []int
	for i := range m.used {
		l = append(l, i)
	}
	slices.SortFunc(l, func(a, b int) int { return m.used[b] - m.used[a] })
	return l
}

// both is a list beside its model; behind each call all that can be asked is asked of both.
type both struct {
	t     *testing.T
	list  *List
	model *model
	last  []int // what Order answered behind the call ahead
}

func newBoth(t *testing.T, n int) *both {
	t.Helper()
	b := &both{t: t, list: newList(t, n), model: newModel(n)}
	b.check("New")
	return b
}

func newList(t *testing.T, n int) *List {
	t.Helper()
	l, e := New(n)
	if e != api.OK || l == nil {
		t.Fatalf("New(%d): %v, %d", n, l, e)
	}
	return l
}

func (b *both) use(i int) api.Errno {
	b.t.Helper()
	e, want := b.list.Use(i), b.model.use(i)
	if e != want {
		b.t.Fatalf("for %d numbers: Use(%d): %d, not %d", b.model.n, i, e, want)
	}
	b.keeps(fmt.Sprint("Use ", i), b.last)
	return e
}

func (b *both) drop(i int) bool {
	b.t.Helper()
	there, want := b.list.Drop(i), b.model.drop(i)
	if there != want {
		b.t.Fatalf("for %d numbers: Drop(%d): %v, not %v", b.model.n, i, there, want)
	}
	others := slices.DeleteFunc(slices.Clone(b.last), func(k int) bool { return k == i })
	b.keeps(fmt.Sprint("Drop ", i), others)
	return there
}

// keeps goes by what the list itself answers, not by the model: it has only numbers of its own, none of them twice, and all of these.
func (b *both) keeps(call string, these []int) {
	b.t.Helper()
	times := make([]int, b.model.n)
	for _, i := range b.list.Order() {
		if i < 0 || i >= len(times) || times[i] > 0 {
			b.t.Fatalf("for %d numbers, behind %s: %d is there twice, or none of them", b.model.n, call, i)
		}
		times[i]++
	}
	for _, i := range these {
		if times[i] == 0 {
			b.t.Fatalf("for %d numbers, behind %s: %d is lost", b.model.n, call, i)
		}
	}
	b.check(call)
}

func (b *both) check(call string) {
	b.t.Helper()
	oldest, some := b.list.Oldest()
	if want, wantSome := b.model.oldest(); oldest != want || some != wantSome {
		b.t.Fatalf("for %d numbers, behind %s: Oldest is %d, %v, not %d, %v", b.model.n, call, oldest, some, want, wantSome)
	}
	got, want := b.list.Order(), b.model.order()
	if !slices.Equal(got, want) {
		b.t.Fatalf("for %d numbers, behind %s: Order is %d, not %d", b.model.n, call, got, want)
	}
	b.last = got
}

// useAll uses these, one behind the other.
func (b *both) useAll(numbers ...int) {
	b.t.Helper()
	for _, i := range numbers {
		b.use(i)
	}
}

// below is all numbers of a list, from 0 on.
func below(n int) []int {
	l := make([]int, n)
	for i := range l {
		l[i] = i
	}
	return l
}

// strange is numbers that are none of a list's.
func strange(n int) []int {
	return []int{math.MinInt, math.MinInt + 1, math.MinInt32, -n - 1, -n, -2, -1, n, n + 1, 2*n + 1, api.MaxSlots, api.MaxSlots + 1, math.MaxInt32, math.MaxUint32, math.MaxUint32 + 1, math.MaxInt - 1, math.MaxInt}
}

// dice draws what tests are made of: always the same, so that a test fails each time or never.
type dice struct{ *rand.Rand }

func newDice(seed uint64) dice { return dice{rand.New(rand.NewPCG(seed, 11))} }

func one[T any](d dice, l ...T) T { return l[d.IntN(len(l))] }
