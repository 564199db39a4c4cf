package node

import (
	"fmt"
	"slices"
	"strings"
	"testing"

	"tattler/api"
	"tattler/mix"
	"tattler/msg"
	"tattler/say"
)

// fleet is nodes whose frames go nowhere but to one another; a node that is nil has crashed.
type fleet struct {
	t     *testing.T
	d     dice
	c     api.Conf
	nodes []*Node
	times []uint64
	cut   [api.MaxNodes][api.MaxNodes]bool
	flies []string
	codec *msg.Codec
	set   map[string]bool // key, flags and body of each write that was accepted
	said  [][]string      // of each node and session, what isn't read yet
	// since is, of each node, since when it believes another one's incarnation to be Suspect: node and incarnation, by its own time.
	since []map[api.News]uint64
	long  map[api.News]bool // incarnations that somebody suspected for Suspect ticks
	told  int
}

func newFleet(t *testing.T, seed uint64) *fleet {
	d := newDice(seed)
	f := &fleet{t: t, d: d, codec: msg.New(), set: map[string]bool{}, long: map[api.News]bool{}}
	f.c = api.Conf{
		Nodes: 1 + d.IntN(6), Slots: one(d, 3, 100), Bytes: one(d, 30, 10000), Hints: one(d, 1, 64), Sessions: 2,
		Drift: one(d, 0, 5, 1000), Keep: one(d, 20, 1000), Suspect: one(d, 1, 3, 10), Wait: one(d, 1, 3),
	}
	for i := range f.c.Nodes {
		n, _ := New(f.c, uint8(i), 1, false)
		f.nodes, f.times = append(f.nodes, n), append(f.times, 1)
		f.said, f.since = append(f.said, make([]string, 2)), append(f.since, map[api.News]uint64{})
	}
	return f
}

// after holds what is promised of a node behind each of its calls; out is what it sent.
func (f *fleet) after(i int, out []string) {
	f.t.Helper()
	f.flies = append(f.flies, out...)
	f.flies = f.flies[max(0, len(f.flies)-api.MaxFly):]
	n := f.nodes[i]
	f.times[i] = n.Time()
	for _, r := range n.Wrote() {
		f.set[fmt.Sprint(r.Key, " ", r.Flags, " ", r.Body)] = true
	}
	f.read(i)
	f.suspects(i)
}

// read is P1: each value that is told was set, or touched.
func (f *fleet) read(i int) {
	f.t.Helper()
	for s := range f.said[i] {
		text := f.said[i][s] + f.nodes[i].Replies(s)
		for at := strings.Index(text, "VALUE "); at >= 0; at = strings.Index(text, "VALUE ") {
			l, next, e := say.Read(text, at)
			if e != api.OK {
				f.t.Fatalf("%d: %q", e, text[at:])
			}
			for _, r := range l {
				f.told++
				if !f.set[fmt.Sprint(r.Key, " ", r.Flags, " ", r.Body)] {
					f.t.Fatalf("%+v was never set", r)
				}
			}
			text = text[next:]
		}
	}
}

// suspects is P6: who is Dead was Suspect at some node for as long as it takes.
func (f *fleet) suspects(i int) {
	f.t.Helper()
	now := map[api.News]uint64{}
	view := f.nodes[i].View()
	for k, m := range view {
		x := api.News{Node: uint8(k), Member: suspect(m.Inc)}
		if m.State == api.Suspect {
			now[x] = f.times[i]
			if from, some := f.since[i][x]; some {
				now[x] = from
			}
		}
		from, some := f.since[i][x]
		if m.State == api.Dead && some && f.times[i] >= from+uint64(f.c.Suspect) {
			f.long[x] = true
		}
	}
	for k, m := range view {
		if x := (api.News{Node: uint8(k), Member: suspect(m.Inc)}); m.State == api.Dead && !f.long[x] {
			f.t.Fatalf("%d believes %d to be Dead of %d; nobody has suspected that for long", i, k, m.Inc)
		}
	}
	f.since[i] = now
}

func (f *fleet) tick(i int, draw uint64) {
	f.t.Helper()
	if f.nodes[i] == nil {
		f.times[i]++
		return
	}
	f.after(i, f.nodes[i].Tick(draw))
}

func (f *fleet) deliver(k int) {
	f.t.Helper()
	s := f.flies[k]
	f.flies = slices.Delete(f.flies, k, k+1)
	m, _ := f.codec.Unpack(s)
	if f.nodes[m.To] != nil && !f.cut[m.From][m.To] {
		f.after(int(m.To), f.nodes[m.To].Receive(s))
	}
}

// drain ends: what comes of a frame comes to an end.
func (f *fleet) drain() {
	f.t.Helper()
	for k := 0; len(f.flies) > 0; k++ {
		if k == 100000 {
			f.t.Fatal("it doesn't end")
		}
		f.deliver(0)
	}
}

func (f *fleet) round() {
	f.t.Helper()
	x := f.d.Uint64()
	for i := range f.nodes {
		f.tick(i, mix.Two(x, uint64(i)))
	}
	f.drain()
}

// befall is a step of all that may befall nodes, but bytes that none of them has sent.
func (f *fleet) befall(keys []string) {
	f.t.Helper()
	d, i := f.d, f.d.IntN(f.c.Nodes)
	switch p := d.IntN(100); {
	case p < 25:
		f.tick(i, d.Uint64())
	case p < 55 && len(f.flies) > 0:
		f.deliver(one(d, 0, d.IntN(len(f.flies))))
	case p < 60 && len(f.flies) > 0:
		k := d.IntN(len(f.flies))
		f.flies = slices.Delete(f.flies, k, k+1)
	case p < 64 && len(f.flies) > 0:
		f.flies = append(f.flies, one(d, f.flies...))
	case p < 68:
		k := d.IntN(f.c.Nodes)
		f.cut[i][k] = d.IntN(2) == 0
		f.cut[k][i] = f.cut[i][k]
	case p < 70:
		f.nodes[i], f.said[i], f.since[i] = nil, make([]string, 2), map[api.News]uint64{}
	case p < 74 && f.nodes[i] == nil:
		f.nodes[i], _ = New(f.c, uint8(i), f.times[i], true)
	case p < 95 && f.nodes[i] != nil:
		out, _ := f.nodes[i].Client(d.IntN(2), d.line(keys, 5).text)
		f.after(i, out)
	case p < 97:
		f.round()
	}
}

// P1, P3, P6: nodes among themselves, whatever befalls them; when it is calm, all of them know who runs.
func TestCalm(t *testing.T) {
	told, down := 0, 0
	for seed := range uint64(300) {
		f := newFleet(t, seed)
		keys := []string{"a", "b", "c", "dd", "ee"}[:1+f.d.IntN(5)]
		for range 50 + f.d.IntN(250) {
			f.befall(keys)
		}
		f.cut = [api.MaxNodes][api.MaxNodes]bool{}
		for range f.c.Suspect + 4*f.c.Nodes + 4 {
			f.round()
		}
		for i, n := range f.nodes {
			for k, m := range n.View() {
				if runs := f.nodes[k] != nil; runs != (m.State == api.Alive) || !runs && m.State != api.Dead {
					t.Fatalf("seed %d: %d believes of %d: %v; it runs: %v", seed, i, k, m, runs)
				}
				if f.nodes[k] == nil {
					down++
				}
			}
		}
		told += f.told
	}
	if told < 500 || down < 100 {
		t.Errorf("%d, %d: the rows tell little", told, down)
	}
}
