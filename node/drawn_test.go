package node

import (
	"fmt"
	"slices"
	"strings"
	"testing"

	"tattler/api"
	"tattler/mix"
	"tattler/msg"
)

// life is what a node has shown since it began: nothing of it may go back.
type life struct {
	had map[string][]uint64 // of each key the greatest stamp and kind that the node had, or sent
	inc uint32
}

// net is nodes that run side by side, each beside its peer, and what flies between them.
type net struct {
	t      *testing.T
	d      dice
	c      api.Conf
	codec  *msg.Codec
	nodes  []*both
	lives  []life
	last   []api.Stamp // of each node the stamp that was accepted last, through all its lives
	flies  []string
	keys   []string
	script []string // all that was answered, for R2
	reach  map[string]int
}

func (d dice) netConf() api.Conf {
	return api.Conf{
		Nodes: one(d, 1, 2, 2, 3, 3, 3, 4, 5, 7), Slots: one(d, 1, 2, 4, 20, 20, 1024), Bytes: one(d, 2, 20, 100, 4000, 4000),
		Hints: one(d, 1, 2, 4, 64), Sessions: one(d, 1, 2, 3), Drift: one(d, 0, 1, 3, 30, 1000),
		Keep: one(d, 1, 4, 30, 200, 1000), Suspect: one(d, 1, 2, 5), Wait: one(d, 1, 2, 4),
	}
}

func newNet(t *testing.T, seed uint64, reach map[string]int) *net {
	t.Helper()
	d := newDice(seed)
	w := &net{t: t, d: d, c: d.netConf(), codec: msg.New(), reach: reach}
	w.keys = []string{"a", "b", "c", "dd", "ee", "key-6", "key-7"}[:1+d.IntN(7)]
	start := one[uint64](d, 0, 1, 10, 1000)
	for id := range w.c.Nodes {
		w.nodes = append(w.nodes, newBoth(t, w.c, uint8(id), start+d.upTo(2), d.IntN(8) == 0))
		w.lives = append(w.lives, life{had: map[string][]uint64{}})
		w.last = append(w.last, api.Stamp{})
	}
	return w
}

// step does one of all that may befall a node.
func (w *net) step() {
	w.t.Helper()
	d := w.d
	id := d.IntN(w.c.Nodes)
	b := w.nodes[id]
	switch p := d.IntN(1000); {
	case p < 250:
		w.goesOut(id, b.tick(d.Uint64()))
	case p < 560:
		w.fly()
	case p < 600 && len(w.flies) > 0:
		w.lose(d.IntN(len(w.flies)))
	case p < 620 && len(w.flies) > 0:
		w.flies = append(w.flies, one(d, w.flies...))
	case p < 870:
		w.client(id)
	case p < 960:
		w.goesOut(id, b.receive(w.drawnFrame(id)))
	case p < 966:
		w.goesOut(id, b.receive(d.body(60)))
	case p < 972 && len(w.flies) > 0:
		s := []byte(one(d, w.flies...))
		s[d.IntN(len(s))] ^= 1 << d.IntN(8)
		w.goesOut(id, b.receive(string(s)))
	case p < 980:
		w.restart(id)
	default:
		w.wrote(id)
	}
	w.look(id)
}

func (w *net) lose(i int) { w.flies = slices.Delete(w.flies, i, i+1) }

// fly delivers what flies, mostly in its order.
func (w *net) fly() {
	for range w.d.IntN(6) {
		if len(w.flies) == 0 {
			return
		}
		i := 0
		if w.d.IntN(4) == 0 {
			i = w.d.IntN(len(w.flies))
		}
		s := w.flies[i]
		w.lose(i)
		m, e := w.codec.Unpack(s)
		if e != api.OK || int(m.To) >= w.c.Nodes || m.To == m.From {
			w.t.Fatalf("%+v: %d", m, e)
		}
		w.goesOut(int(m.To), w.nodes[m.To].receive(s))
		w.look(int(m.To))
	}
}

func (w *net) client(id int) {
	b, s := w.nodes[id], w.d.IntN(w.c.Sessions)
	text := ""
	for range 1 + w.d.IntN(5) {
		text += w.d.line(w.keys, 12).text
	}
	if w.d.IntN(80) == 0 {
		text = strings.Repeat("get a\nversion\n", 1+w.d.IntN(40))
	}
	switch w.d.IntN(150) {
	case 0:
		text += "quit\r\nversion\r\n"
	case 1:
		text = strings.Repeat("x", 4094+w.d.IntN(10))
	case 2:
		s = one(w.d, -1, w.c.Sessions)
	}
	if len(text) > 4096 && w.d.IntN(2) == 0 {
		text = text[:4096]
	}
	if w.d.IntN(3) == 0 {
		text = text[:w.d.IntN(len(text)+1)]
	}
	if len(text) == 0 && b.n.Sizes().Asks == 0 {
		text = "\n"
	}
	waited := b.p.sizes().Waiting
	out, e := b.client(s, text)
	w.reach[fmt.Sprint("client ", e)]++
	if e == api.OK && waited > 0 {
		w.reach["behind others"]++
	}
	w.goesOut(id, out)
}

// wrote looks at all that was said and accepted.
func (w *net) wrote(id int) {
	b := w.nodes[id]
	for s := -1; s <= w.c.Sessions; s++ {
		said := b.replies(s)
		w.script = append(w.script, said)
		w.reach["said"] += len(said)
		for _, word := range []string{"STORED", "DELETED", "TOUCHED", "NOT_FOUND", "VALUE", "busy", "no owner"} {
			w.reach[word] += strings.Count(said, word)
		}
	}
	l := b.wrote()
	w.script = append(w.script, fmt.Sprint(l))
	for _, r := range l {
		// P9: they rise, through all lives.
		if !ahead(w.last[id], r.Stamp) || r.Stamp.Node != uint8(id) {
			b.fail("accepted at %v, behind %v", r.Stamp, w.last[id])
		}
		w.last[id] = r.Stamp
	}
}

// restart is a crash, and a new life at the same time.
func (w *net) restart(id int) {
	w.wrote(id)
	was := w.nodes[id]
	w.nodes[id] = newBoth(w.t, w.c, uint8(id), was.n.Time(), true)
	w.lives[id] = life{had: map[string][]uint64{}}
	w.reach["restart"]++
}

// goesOut lets frames fly, and looks at what they tell of keys.
func (w *net) goesOut(id int, out []string) {
	w.t.Helper()
	for _, s := range out {
		m, _ := w.codec.Unpack(s)
		w.reach[fmt.Sprint("sent ", m.Kind)]++
		if m.Kind == api.MsgItem || m.Kind == api.MsgPush {
			for _, r := range m.Recs {
				w.known(id, r)
			}
		}
	}
	w.script = append(w.script, out...)
	w.flies = append(w.flies, out...)
	w.flies = w.flies[max(0, len(w.flies)-100):]
}

// known is P2: of no key goes what a node has, or sends, back.
func (w *net) known(id int, r api.Rec) {
	w.t.Helper()
	is := rank(r.Stamp, r.Kind)
	if was := w.lives[id].had[r.Key]; slices.Compare(is, was) < 0 {
		w.nodes[id].fail("%q: %v, behind %v", r.Key, is, was)
	}
	w.lives[id].had[r.Key] = is
}

// look holds what is promised behind each call.
func (w *net) look(id int) {
	w.t.Helper()
	b := w.nodes[id]
	for _, key := range w.keys {
		if r, some := b.record(key); some {
			w.known(id, r)
		}
	}
	self := b.n.View()[id]
	if self.State != api.Alive || self.Inc < w.lives[id].inc {
		b.fail("of itself: %v, behind %d", self, w.lives[id].inc)
	}
	w.lives[id].inc = self.Inc
	z := b.n.Sizes()
	if z.Records > w.c.Slots || z.Bytes > w.c.Bytes || z.Hints > w.c.Hints || z.Asks > w.c.Sessions || z.Talk > w.c.Nodes || z.Waiting > w.c.Sessions*4160 {
		b.fail("bounds: %+v", z)
	}
	w.reach["hints"] += z.Hints
	w.reach["evicted"] += z.Evicted
	w.reach["waiting"] += z.Waiting
	w.reach["asks"] += z.Asks
}

// drawnFrame is of a message of any kind, sound in itself, that some other node could have sent.
func (w *net) drawnFrame(id int) string {
	d, b := w.d, w.nodes[id]
	m := api.Msg{Kind: uint8(1 + d.IntN(14)), From: uint8(d.IntN(w.c.Nodes)), To: uint8(id), Target: uint8(d.IntN(w.c.Nodes + 1)), Flag: d.IntN(2) == 0}
	if m.From == uint8(id) || d.IntN(20) == 0 {
		m.From = uint8(d.IntN(w.c.Nodes + 1))
	}
	if d.IntN(20) == 0 {
		m.To = uint8(d.IntN(w.c.Nodes + 1))
	}
	m.Id = b.p.ids - uint32(d.IntN(3))
	if d.IntN(4) == 0 {
		m.Id = uint32(d.IntN(3))
	}
	many := func() int { return one(d, 0, 1, 1, 1, 1, 2, 3) }
	for range one(d, 0, 0, 0, 1, 2, 5) {
		m.News = append(m.News, api.News{Node: uint8(d.IntN(w.c.Nodes + 1)), Member: api.Member{State: uint8(1 + d.IntN(4)), Inc: d.inc()}})
	}
	for range many() {
		m.Keys = append(m.Keys, one(d, w.keys...))
	}
	for range many() {
		m.Recs = append(m.Recs, w.drawnRec(b))
	}
	for range d.IntN(5) {
		r := w.drawnRec(b)
		m.Seen = append(m.Seen, api.Seen{Key: r.Key, Stamp: r.Stamp, Kind: r.Kind})
	}
	m.Range = uint8(d.IntN(64))
	if d.IntN(4) > 0 {
		m.Range = uint8(mix.Range(one(d, w.keys...)))
	}
	w.digests(b, &m)
	w.answers(b, &m)
	s, e := w.codec.Pack(m)
	if e != api.OK {
		w.t.Fatalf("%+v: %d", m, e)
	}
	return s
}

func (d dice) inc() uint32 { return one(d, 0, 0, 1, 1, 2, 3, uint32(d.IntN(9)), uint32(d.IntN(200))) }

// digests are the node's own ones, or some that differ a little.
func (w *net) digests(b *both, m *api.Msg) {
	t, root := b.p.root()
	switch w.d.IntN(6) {
	case 0:
		m.Digests = []uint64{root}
	case 1, 2:
		m.Digests = []uint64{w.d.Uint64()}
	case 3, 4:
		m.Digests = t.Leaves()
		for range w.d.IntN(4) {
			m.Digests[w.d.IntN(64)] ^= w.d.Uint64()
		}
	case 5:
		m.Digests = make([]uint64, one(w.d, 2, 63, 65))
	}
}

// answers lets an answer be one to what the node has asked, most of the time; so some fields of it are other ones.
func (w *net) answers(b *both, m *api.Msg) {
	l := b.p.asking()
	if len(l) == 0 || m.Kind != api.MsgWrote && m.Kind != api.MsgItem || w.d.IntN(4) == 0 {
		return
	}
	j := b.p.jobs[one(w.d, l...)][0]
	if w.d.IntN(5) > 0 {
		m.From = one(w.d, j.asked...)
	}
	m.Id = j.id
	if j.phase == "write" {
		m.Recs = []api.Rec{{Key: j.rec.Key, Stamp: j.rec.Stamp, Kind: api.Marker}}
		if w.d.IntN(4) == 0 {
			m.Recs[0].Stamp.Logical++
		}
	} else if m.Keys = j.cmd.Keys[:1]; j.cmd.Kind == api.CmdGet {
		m.Keys = j.keys[:1]
	}
	w.reach["answers"]++
}

// drawnRec is close to what the node knows: now and then just that, or of its stamp.
func (w *net) drawnRec(b *both) api.Rec {
	d := w.d
	r := api.Rec{Key: one(d, w.keys...), Kind: uint8(1 + d.IntN(3))}
	have, some := b.p.store.Peek(r.Key)
	if some && d.IntN(5) == 0 {
		return have
	}
	time := b.p.time
	r.Stamp = api.Stamp{Phys: time - min(time, d.upTo(4)), Logical: uint32(d.IntN(3)), Node: uint8(d.IntN(w.c.Nodes))}
	if d.IntN(3) == 0 {
		r.Stamp.Phys = time + uint64(max(0, w.c.Drift+d.IntN(4)-2))
	}
	if some && d.IntN(4) == 0 {
		r.Stamp = have.Stamp
	}
	if r.Stamp.Phys > api.MaxTime {
		r.Stamp.Phys = api.MaxTime
	}
	if r.Kind == api.Value {
		r.Flags, r.Body = uint32(d.IntN(3)), d.body(8)
		r.Expiry = one(d, 0, 0, time, time+1, time+5)
	}
	return r
}

// P24.1, P24.4, P2, P6, P7, P9: nodes side by side, whatever befalls them, each against its peer, call by call; and R2: the same calls have the same answers.
func TestNetDrawn(t *testing.T) {
	reach := map[string]int{}
	seeds := uint64(250)
	if testing.Short() {
		seeds = 20
	}
	for seed := range seeds {
		var scripts [2][]string
		for i := range scripts[:1+seed%10/9] {
			w := newNet(t, seed, reach)
			for range 600 {
				w.step()
			}
			scripts[i] = w.script
		}
		if seed%10 == 9 && !slices.Equal(scripts[0], scripts[1]) {
			t.Fatalf("seed %d: the same calls, and other answers", seed)
		}
	}
	told(t, reach)
}

func told(t *testing.T, reach map[string]int) {
	t.Helper()
	var names []string
	for kind := 1; kind <= 14; kind++ {
		names = append(names, fmt.Sprint("sent ", kind))
	}
	names = append(names, "STORED", "DELETED", "TOUCHED", "NOT_FOUND", "VALUE", "busy", "no owner", "restart", "hints", "evicted", "waiting", "asks", "answers", "behind others")
	for _, e := range []api.Errno{api.OK, api.ErrNone, api.ErrLong, api.ErrBusy} {
		names = append(names, fmt.Sprint("client ", e))
	}
	for _, name := range names {
		if reach[name] < 30 && !testing.Short() {
			t.Errorf("%s: %d: the rows tell little", name, reach[name])
		}
	}
	if testing.Verbose() {
		t.Log(reach)
	}
}

// P24.3: the same bytes, cut otherwise, of a node alone and of one among others: the same frames, replies and records.
func TestCut(t *testing.T) {
	rows := 0
	for seed := range uint64(150) {
		d := newDice(seed)
		c := d.netConf()
		keys := []string{"a", "b", "cc", "dd"}
		text := ""
		for len(text) < 600 {
			text += d.line(keys, 20).text
		}
		if text += one(d, "", "get a", "quit\r\n"); len(text) > 4096 {
			text = text[:4096]
		}
		whole, cut := newBoth(t, c, 0, 9, false), newBoth(t, c, 0, 9, false)
		want, _ := whole.client(0, text)
		var got []string
		for rest := text; rest != ""; {
			n := min(len(rest), 1+d.IntN(one(d, 1, 5, 100)))
			out, e := cut.client(0, rest[:n])
			if e == api.ErrBusy {
				break // P24.3 speaks of bytes none of which are refused
			}
			got, rest = append(got, out...), rest[n:]
			if rest == "" {
				evenOut(t, whole, cut, got, want, keys)
				rows++
			}
		}
	}
	if rows < 100 {
		t.Errorf("%d: the rows tell little", rows)
	}
}

// evenOut holds two nodes against each other that were handed the same, cut otherwise; both go on for some ticks.
func evenOut(t *testing.T, whole, cut *both, got, want, keys []string) {
	t.Helper()
	for i := range uint64(9) {
		if !slices.Equal(got, want) {
			t.Fatalf("%d, %d frames, behind %q", len(got), len(want), cut.calls)
		}
		if a, b := whole.replies(0), cut.replies(0); a != b {
			t.Fatalf("%q, not %q, behind %q", b, a, cut.calls)
		}
		for _, key := range keys {
			a, _ := whole.record(key)
			if b, _ := cut.record(key); a != b {
				t.Fatalf("%v, not %v, behind %q", b, a, cut.calls)
			}
		}
		want, got = whole.tick(i), cut.tick(i)
	}
	if !slices.Equal(whole.wrote(), cut.wrote()) || whole.n.Sizes() != cut.n.Sizes() {
		t.Fatalf("behind %q", cut.calls)
	}
}
