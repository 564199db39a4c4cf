package node

import (
	"cmp"
	"fmt"
	"math"
	"math/rand/v2"
	"slices"
	"testing"

	"tattler/api"
	"tattler/feed"
	"tattler/msg"
	"tattler/probe"
	"tattler/rec"
	"tattler/ring"
	"tattler/say"
	"tattler/store"
	"tattler/sweep"
	"tattler/talk"
	"tattler/tree"
)

// dice draws, the same of each seed.
type dice struct{ *rand.Rand }

func newDice(seed uint64) dice { return dice{rand.New(rand.NewPCG(seed, 24))} }

func one[T any](d dice, l ...T) T { return l[d.IntN(len(l))] }

// upTo is a number from 0 to n.
func (d dice) upTo(n uint64) uint64 {
	if n == math.MaxUint64 {
		return d.Uint64()
	}
	return d.Uint64N(n + 1)
}

// job is a command of a peer, and how far it has come.
type job struct {
	cmd   api.Cmd
	phase string // "": it hasn't begun; "read", "write": it waits for answers; "done"
	keys  []string
	live  []api.Rec
	id    uint32
	rec   api.Rec // what is written
	asked []uint8
	told  map[uint8]api.Reply
	until uint64
}

// doubted is an incarnation that a peer suspects, and when that is over.
type doubted struct {
	inc  uint32
	over uint64
}

// kept is a hint of a peer.
type kept struct {
	rec  api.Rec
	have map[uint8]bool
}

// peer is a node that is reckoned apart from the program: its commands go through phases, who answered what is in maps, its clock, its view, its doubts and its hints are its own; of the layers it leans on those that are wide.
type peer struct {
	conf    api.Conf
	id      uint8
	ticks   uint64
	time    uint64
	begun   uint64
	rest    bool
	last    api.Stamp
	store   *store.Store
	view    []api.Member
	talk    *talk.Talk
	probe   *probe.Probe
	doubts  map[uint8]doubted
	hints   map[string]kept
	counts  map[string]uint64
	feeds   []*feed.Feed
	jobs    [][]*job
	quit    []bool
	said    []string
	ids     uint32
	curious map[uint8][]uint8 // who asked about a node
	turn    int
	wrote   []api.Rec
	out     []api.Msg
}

func newPeer(c api.Conf, id uint8, time uint64, rest bool) *peer {
	p := &peer{conf: c, id: id, time: time, begun: time, rest: rest}
	p.store, _ = store.New(c.Slots, c.Bytes, c.Keep)
	p.talk, _ = talk.New(6, 4)
	p.probe, _ = probe.New(id, c.Nodes)
	p.doubts, p.hints = map[uint8]doubted{}, map[string]kept{}
	p.counts, p.curious = map[string]uint64{}, map[uint8][]uint8{}
	for range c.Nodes {
		p.view = append(p.view, api.Member{State: api.Alive})
	}
	for range c.Sessions {
		p.feeds = append(p.feeds, feed.New())
		p.jobs, p.quit, p.said = append(p.jobs, nil), append(p.quit, false), append(p.said, "")
	}
	return p
}

// rank stands in order as stamps do, by kind behind that.
func rank(s api.Stamp, kind uint8) []uint64 {
	return []uint64{s.Phys, uint64(s.Logical), uint64(s.Node), uint64(kind)}
}

func ahead(a, b api.Stamp) bool { return slices.Compare(rank(a, 0), rank(b, 0)) < 0 }

func (p *peer) alive() []uint8 {
	var l []uint8
	for i, m := range p.view {
		if m.State == api.Alive || m.State == api.Suspect {
			l = append(l, uint8(i))
		}
	}
	return l
}

func (p *peer) whole() []api.News {
	var l []api.News
	for i, m := range p.view {
		l = append(l, api.News{Node: uint8(i), Member: m})
	}
	return l
}

func (p *peer) tell(m api.Msg, whole bool) {
	m.From = p.id
	if whole {
		m.News = p.whole()
	} else {
		m.News = p.talk.Take()
	}
	p.out = append(p.out, m)
}

func (p *peer) hear(news ...api.News) {
	for _, x := range news {
		if int(x.Node) >= len(p.view) {
			continue
		}
		had, have := p.view[x.Node], x.Member
		if x.Node == p.id {
			if have.Inc < had.Inc || have.Inc == had.Inc && have.State == api.Alive {
				continue
			}
			have = api.Member{State: api.Alive, Inc: uint32(min(uint64(have.Inc)+1, math.MaxUint32))}
		} else if slices.Compare([]uint32{have.Inc, uint32(have.State)}, []uint32{had.Inc, uint32(had.State)}) <= 0 {
			continue
		}
		if p.view[x.Node] = have; have == had {
			continue
		}
		p.talk.Add(api.News{Node: x.Node, Member: have})
		d, some := p.doubts[x.Node]
		if have.State == api.Suspect {
			if !some || d.inc < have.Inc {
				p.doubts[x.Node] = doubted{have.Inc, p.time + uint64(p.conf.Suspect)}
			}
		} else if some && d.inc < have.Inc {
			delete(p.doubts, x.Node)
		}
	}
}

// take tells whether the node covers the record then.
func (p *peer) take(r api.Rec) bool {
	if r.Stamp.Phys > p.time+uint64(p.conf.Drift) {
		return false
	}
	if ahead(p.last, r.Stamp) {
		p.last = r.Stamp
	}
	_, e := p.store.Put(r, p.time)
	return e == api.ErrOld || p.has(r)
}

func (p *peer) has(r api.Rec) bool {
	h, some := p.store.Peek(r.Key)
	return some && rec.Compare(h, r) != -1
}

// stamp is zero, if the clock gives none.
func (p *peer) stamp() api.Stamp {
	if p.rest && p.time <= p.begun+uint64(p.conf.Drift) {
		return api.Stamp{}
	}
	if p.time > p.last.Phys {
		p.last = api.Stamp{Phys: p.time, Node: p.id}
	} else if p.last.Logical == math.MaxUint32 {
		return api.Stamp{}
	} else {
		p.last = api.Stamp{Phys: p.last.Phys, Logical: p.last.Logical + 1, Node: p.id}
	}
	return p.last
}

func (p *peer) settle() {
	up := p.alive()
	for key, h := range p.hints {
		if !slices.ContainsFunc(ring.Owners(key, up), func(o uint8) bool { return !h.have[o] }) {
			delete(p.hints, key)
		}
	}
}

func (p *peer) acked(key string, s api.Stamp, by uint8) {
	if h, some := p.hints[key]; some && !h.have[by] && !ahead(s, h.rec.Stamp) {
		h.have[by] = true
		p.settle()
	}
}

// known is what is answered about a key, and whether it is a value that is over.
func (p *peer) known(key string) api.Reply {
	r, some := p.store.Get(key)
	past := some && r.Kind == api.Value && r.Expiry != 0 && r.Expiry <= p.time
	if past {
		r.Body = ""
	}
	return api.Reply{Has: some, Past: past, Rec: r}
}

// ask begins a phase of a job.
func (p *peer) ask(j *job, phase, key string) {
	p.ids++
	j.phase, j.id, j.told = phase, p.ids, map[uint8]api.Reply{}
	j.asked = ring.Owners(key, p.alive())
	j.until = p.ticks + uint64(p.conf.Wait)
	for _, o := range j.asked {
		switch {
		case o != p.id && phase == "read":
			p.tell(api.Msg{Kind: api.MsgRead, To: o, Id: j.id, Keys: []string{key}}, false)
		case o != p.id:
			p.tell(api.Msg{Kind: api.MsgWrite, To: o, Id: j.id, Recs: []api.Rec{j.rec}}, false)
		case phase == "read":
			j.told[o] = p.known(key)
		default:
			p.take(j.rec)
			p.answered(j, o, api.Reply{Has: p.has(j.rec)})
		}
	}
}

// answered takes one's first answer.
func (p *peer) answered(j *job, by uint8, r api.Reply) {
	if _, some := j.told[by]; some || !slices.Contains(j.asked, by) {
		return
	}
	j.told[by] = r
	if j.phase == "write" && r.Has {
		p.acked(j.rec.Key, j.rec.Stamp, by)
	}
}

func (p *peer) waits(j *job) bool {
	return len(j.told) < len(j.asked) && p.ticks < j.until
}

// best is the best answer's record, whether it is live, and who is behind it.
func (j *job) best() (api.Rec, bool, []uint8) {
	var best api.Rec
	for _, o := range j.asked {
		if r, some := j.told[o]; some && r.Has && (best.Kind == 0 || rec.Compare(r.Rec, best) == 1) {
			best = r.Rec
		}
	}
	if best.Kind == 0 {
		return best, false, nil
	}
	live := false
	var behind []uint8
	for _, o := range j.asked {
		r, some := j.told[o]
		live = live || some && best.Kind == api.Value && r.Has && !r.Past && r.Rec == best
		if some && (!r.Has || rec.Compare(r.Rec, best) == -1) {
			behind = append(behind, o)
		}
	}
	return best, live, behind
}

func (p *peer) reply(s int, j *job, text string) {
	if j.phase = "done"; !j.cmd.Quiet {
		p.said[s] += text
	}
}

func (p *peer) over(exptime int64) uint64 {
	switch {
	case exptime == 0:
		return 0
	case exptime < 0 && p.time == 0:
		return 1
	case exptime < 0:
		return p.time
	}
	return min(p.time+uint64(exptime), 1<<48-1)
}

func (p *peer) value(j *job, r api.Rec) api.Rec {
	return api.Rec{Key: j.cmd.Keys[0], Kind: api.Value, Flags: r.Flags, Body: r.Body, Expiry: p.over(j.cmd.Exptime)}
}

func (p *peer) write(s int, j *job, r api.Rec) {
	r.Stamp = p.stamp()
	h := kept{api.Rec{Key: r.Key, Stamp: r.Stamp, Kind: min(r.Kind, api.Tomb)}, map[uint8]bool{}}
	if r.Kind == api.Value {
		h.rec.Kind = api.Marker
	}
	_, there := p.hints[r.Key]
	if r.Stamp == (api.Stamp{}) || !there && len(p.hints) >= p.conf.Hints {
		p.counts["refused"]++
		p.reply(s, j, "SERVER_ERROR busy\r\n")
		return
	}
	p.hints[r.Key] = h
	p.wrote = append(p.wrote, r)
	j.rec = r
	p.ask(j, "write", r.Key)
}

// begin does what needs no answers, or asks the first ones.
func (p *peer) begin(s int, j *job) {
	switch j.cmd.Kind {
	case api.CmdGet:
		j.keys = j.cmd.Keys
		p.ask(j, "read", j.keys[0])
	case api.CmdSet:
		p.counts["sets"]++
		p.write(s, j, p.value(j, api.Rec{Flags: j.cmd.Flags, Body: j.cmd.Body}))
	case api.CmdDelete:
		p.counts["deletes"]++
		p.ask(j, "read", j.cmd.Keys[0])
	case api.CmdTouch:
		p.counts["touches"]++
		p.ask(j, "read", j.cmd.Keys[0])
	case api.CmdStats:
		var l []api.Stat
		for _, name := range []string{"gets", "hits", "sets", "deletes", "touches", "stored", "lost", "refused", "frames", "bad"} {
			l = append(l, api.Stat{Name: name, Value: p.counts[name]})
		}
		p.reply(s, j, say.Stats(l))
	case api.CmdVersion:
		p.reply(s, j, "VERSION tattler 1\r\n")
	case api.CmdQuit:
		p.quit[s] = true
		p.reply(s, j, "")
	default:
		p.reply(s, j, j.cmd.Reply)
	}
}

// goOn goes on with a job whose answers are there.
func (p *peer) goOn(s int, j *job) {
	if j.phase == "write" {
		for _, r := range j.told {
			if r.Has {
				p.counts["stored"]++
				done := map[int]string{api.CmdSet: "STORED\r\n", api.CmdDelete: "DELETED\r\n", api.CmdTouch: "TOUCHED\r\n"}
				p.reply(s, j, done[j.cmd.Kind])
				return
			}
		}
		p.counts["lost"]++
		p.reply(s, j, "SERVER_ERROR no owner answered\r\n")
		return
	}
	r, live, behind := j.best()
	for _, o := range behind {
		if r.Kind == api.Value && !live {
			continue
		}
		if o == p.id {
			p.take(r)
		} else {
			p.tell(api.Msg{Kind: api.MsgWrite, To: o, Recs: []api.Rec{r}}, false)
		}
	}
	switch {
	case j.cmd.Kind == api.CmdGet:
		p.counts["gets"]++
		if live {
			p.counts["hits"]++
			j.live = append(j.live, r)
		}
		if j.keys = j.keys[1:]; len(j.keys) == 0 {
			p.reply(s, j, say.Items(j.live))
			return
		}
		p.ask(j, "read", j.keys[0])
	case !live:
		p.reply(s, j, "NOT_FOUND\r\n")
	case j.cmd.Kind == api.CmdDelete:
		p.write(s, j, api.Rec{Key: r.Key, Kind: api.Tomb})
	default:
		p.write(s, j, p.value(j, r))
	}
}

// run goes on with a session as far as it comes.
func (p *peer) run(s int) {
	for len(p.jobs[s]) > 0 {
		j := p.jobs[s][0]
		switch {
		case j.phase == "":
			p.begin(s, j)
		case j.phase == "done":
			p.jobs[s] = p.jobs[s][1:]
		case p.waits(j):
			return
		default:
			p.goOn(s, j)
		}
	}
}

func (p *peer) waiting(s int) int {
	n := 0
	for _, j := range p.jobs[s] {
		if j.phase == "" {
			n++
		}
	}
	return n
}

// asking are the sessions whose requests aren't over, in the order in which these began.
func (p *peer) asking() []int {
	var l []int
	for s, jobs := range p.jobs {
		if len(jobs) > 0 {
			l = append(l, s)
		}
	}
	slices.SortFunc(l, func(a, b int) int { return cmp.Compare(p.jobs[a][0].id, p.jobs[b][0].id) })
	return l
}

func (p *peer) client(s int, text string) api.Errno {
	switch {
	case s < 0 || s >= len(p.feeds) || p.quit[s]:
		return api.ErrNone
	case len(text) > 4096:
		return api.ErrLong
	case p.waiting(s) >= 64:
		return api.ErrBusy
	}
	for _, c := range p.feeds[s].Take(text) {
		p.jobs[s] = append(p.jobs[s], &job{cmd: c})
	}
	p.run(s)
	return api.OK
}

func (p *peer) root() (*tree.Tree, uint64) {
	t := tree.New()
	for k := range 64 {
		t.Flip(k, p.store.Digest(k))
	}
	return t, t.Root()
}

func (p *peer) sweep(to uint8, k int) {
	p.tell(api.Msg{Kind: api.MsgSummary, To: to, Range: uint8(k), Seen: sweep.Summary(p.store.Range(k))}, false)
}

func (p *peer) tick(draw uint64) {
	p.ticks++
	p.time = min(p.time+1, 1<<48-1)
	p.store.Purge(p.time)
	for i := range uint8(64) {
		if d, some := p.doubts[i]; some && d.over <= p.time {
			delete(p.doubts, i)
			p.hear(api.News{Node: i, Member: api.Member{State: api.Dead, Inc: d.inc}})
		}
	}
	up := p.alive()
	round := p.probe.Tick(draw, slices.DeleteFunc(slices.Clone(up), func(i uint8) bool { return i == p.id }))
	for _, i := range round.Failed {
		if m := p.view[i]; m.State == api.Alive {
			p.hear(api.News{Node: i, Member: api.Member{State: api.Suspect, Inc: m.Inc}})
		}
	}
	for _, i := range round.Pings {
		p.tell(api.Msg{Kind: api.MsgPing, To: i}, true)
	}
	for _, a := range round.Asks {
		p.tell(api.Msg{Kind: api.MsgReq, To: a.Helper, Target: a.Target}, false)
	}
	for _, s := range p.asking() {
		p.run(s)
	}
	p.remind()
	p.sweepTurn()
	for _, i := range round.Pings {
		if slices.Contains(p.alive(), i) {
			_, root := p.root()
			p.tell(api.Msg{Kind: api.MsgRoot, To: i, Digests: []uint64{root}}, false)
		}
	}
}

func (p *peer) remind() {
	p.settle()
	var keys []string
	for key := range p.hints {
		keys = append(keys, key)
	}
	slices.Sort(keys)
	missing := map[string][]uint8{}
	for _, key := range keys {
		for _, o := range ring.Owners(key, p.alive()) {
			if !p.hints[key].have[o] {
				missing[key] = append(missing[key], o)
			}
		}
	}
	for _, key := range keys {
		h := p.hints[key]
		for _, o := range missing[key] {
			if o != p.id {
				p.tell(api.Msg{Kind: api.MsgHint, To: o, Recs: []api.Rec{h.rec}}, false)
			} else if p.take(h.rec) {
				p.acked(key, h.rec.Stamp, o)
			}
		}
	}
}

// sweepTurn goes by the row of all pairs of a range and a node.
func (p *peer) sweepTurn() {
	var row [][2]int
	for k := range 64 {
		for i := 1; i < p.conf.Nodes; i++ {
			row = append(row, [2]int{k, (int(p.id) + i) % p.conf.Nodes})
		}
	}
	for i := 1; i < p.conf.Nodes; i++ {
		pair := row[p.turn%len(row)]
		p.turn++
		if slices.Contains(p.alive(), uint8(pair[1])) {
			p.sweep(uint8(pair[1]), pair[0])
			return
		}
	}
}

func (p *peer) receive(codec *msg.Codec, s string) {
	p.counts["frames"]++
	m, e := codec.Unpack(s)
	if e != api.OK || m.To != p.id || m.From == p.id || int(m.From) >= p.conf.Nodes {
		p.counts["bad"]++
		return
	}
	p.hear(m.News...)
	switch m.Kind {
	case api.MsgPing, api.MsgReq, api.MsgAck:
		p.probed(m)
	case api.MsgWrite, api.MsgRead, api.MsgWrote, api.MsgItem:
		p.asked(m)
	case api.MsgHint, api.MsgHinted, api.MsgPush, api.MsgPull:
		p.handed(m)
	default:
		p.swept(m)
	}
}

func (p *peer) probed(m api.Msg) {
	switch {
	case m.Kind == api.MsgAck:
		p.probe.Answer(m.Target)
		l := p.curious[m.Target]
		delete(p.curious, m.Target)
		slices.Sort(l)
		for _, i := range slices.Compact(l) {
			p.tell(api.Msg{Kind: api.MsgAck, To: i, Target: m.Target}, false)
		}
	case m.Kind == api.MsgPing || m.Target == p.id:
		p.tell(api.Msg{Kind: api.MsgAck, To: m.From, Target: p.id}, true)
	case int(m.Target) < p.conf.Nodes:
		p.curious[m.Target] = append(p.curious[m.Target], m.From)
		p.tell(api.Msg{Kind: api.MsgPing, To: m.Target}, true)
	}
}

func (p *peer) asked(m api.Msg) {
	switch {
	case m.Kind == api.MsgWrite && len(m.Recs) == 1:
		r := m.Recs[0]
		if p.take(r); m.Id != 0 {
			p.tell(api.Msg{Kind: api.MsgWrote, To: m.From, Id: m.Id, Flag: p.has(r), Recs: []api.Rec{{Key: r.Key, Stamp: r.Stamp, Kind: api.Marker}}}, false)
		}
	case m.Kind == api.MsgRead && len(m.Keys) == 1:
		k := p.known(m.Keys[0])
		a := api.Msg{Kind: api.MsgItem, To: m.From, Id: m.Id, Keys: m.Keys, Flag: k.Past}
		if k.Has {
			a.Recs = []api.Rec{k.Rec}
		}
		p.tell(a, false)
	case m.Kind == api.MsgWrote || m.Kind == api.MsgItem:
		for s, jobs := range p.jobs {
			if len(jobs) > 0 && jobs[0].id == m.Id && p.told(jobs[0], m) {
				p.run(s)
			}
		}
	}
}

// told tells whether a message answers what a job has asked.
func (p *peer) told(j *job, m api.Msg) bool {
	if m.Kind == api.MsgWrote {
		if j.phase != "write" || len(m.Recs) != 1 || m.Recs[0].Key != j.rec.Key || m.Recs[0].Stamp != j.rec.Stamp {
			return false
		}
		p.answered(j, m.From, api.Reply{Has: m.Flag})
		return true
	}
	key := j.cmd.Keys[0]
	if j.cmd.Kind == api.CmdGet {
		key = j.keys[0]
	}
	if j.phase != "read" || !slices.Equal(m.Keys, []string{key}) {
		return false
	}
	mine := slices.DeleteFunc(slices.Clone(m.Recs), func(r api.Rec) bool { return r.Key != key })
	if len(mine) == 0 {
		p.answered(j, m.From, api.Reply{})
	} else {
		p.answered(j, m.From, api.Reply{Has: true, Past: m.Flag, Rec: mine[0]})
	}
	return true
}

func (p *peer) handed(m api.Msg) {
	var covered []api.Rec
	for _, r := range m.Recs {
		if m.Kind == api.MsgHinted {
			p.acked(r.Key, r.Stamp, m.From)
		} else if m.Kind != api.MsgPull && p.take(r) {
			covered = append(covered, r)
		}
	}
	if m.Kind == api.MsgHint {
		p.tell(api.Msg{Kind: api.MsgHinted, To: m.From, Recs: covered}, false)
	}
	if m.Kind == api.MsgPull {
		p.push(m.From, p.these(m.Keys))
	}
}

// these are the records of the keys, of each where it first stands.
func (p *peer) these(keys []string) []api.Rec {
	var l []api.Rec
	for i, key := range keys {
		if r, some := p.store.Peek(key); some && !slices.Contains(keys[:i], key) {
			l = append(l, r)
		}
	}
	return l
}

func (p *peer) push(to uint8, l []api.Rec) {
	if len(l) > 0 {
		p.tell(api.Msg{Kind: api.MsgPush, To: to, Recs: l}, false)
	}
}

func (p *peer) swept(m api.Msg) {
	t, root := p.root()
	switch {
	case m.Kind == api.MsgRoot && len(m.Digests) == 1 && m.Digests[0] != root:
		p.tell(api.Msg{Kind: api.MsgLeaves, To: m.From, Digests: t.Leaves()}, false)
	case m.Kind == api.MsgLeaves && len(m.Digests) == 64:
		n := 0
		for k := range 64 {
			if m.Digests[k] != p.store.Digest(k) && n < 2 {
				p.sweep(m.From, k)
				n++
			}
		}
	case m.Kind == api.MsgSummary:
		up := p.alive()
		var push []api.Rec
		for _, r := range p.store.Range(int(m.Range)) {
			behind := true
			for _, x := range m.Seen {
				behind = behind && (x.Key != r.Key || slices.Compare(rank(x.Stamp, x.Kind), rank(r.Stamp, r.Kind)) < 0)
			}
			if behind && slices.Contains(ring.Owners(r.Key, up), m.From) {
				push = append(push, r)
			}
		}
		p.push(m.From, push)
		var pull []string
		for _, x := range m.Seen {
			r, some := p.store.Peek(x.Key)
			hasnt := !some || slices.Compare(rank(r.Stamp, r.Kind), rank(x.Stamp, x.Kind)) < 0
			if hasnt && slices.Contains(ring.Owners(x.Key, up), p.id) && !slices.Contains(pull, x.Key) {
				pull = append(pull, x.Key)
			}
		}
		if slices.Sort(pull); len(pull) > 0 {
			p.tell(api.Msg{Kind: api.MsgPull, To: m.From, Keys: pull}, false)
		}
	}
}

func (p *peer) sizes() api.Sizes {
	s := api.Sizes{
		Records: p.store.Len(), Bytes: p.store.Size(), Evicted: p.store.Evicted(),
		Hints: len(p.hints), Talk: p.talk.Len(), Asks: len(p.asking()),
	}
	for i := range p.jobs {
		s.Waiting += p.waiting(i)
	}
	return s
}

// both is a node and its peer, which are handed the same; all that they answer is held against each other, call by call.
type both struct {
	t     *testing.T
	n     *Node
	p     *peer
	codec *msg.Codec
	conf  api.Conf
	calls []string
}

func newBoth(t *testing.T, c api.Conf, id uint8, time uint64, rest bool) *both {
	t.Helper()
	n, e := New(c, id, time, rest)
	if e != api.OK || n == nil {
		t.Fatalf("New(%+v, %d, %d): %d", c, id, time, e)
	}
	return &both{t: t, n: n, p: newPeer(c, id, time, rest), codec: msg.New(), conf: c}
}

func (b *both) fail(format string, args ...any) {
	b.t.Helper()
	from := max(0, len(b.calls)-12)
	b.t.Fatalf("node %d of %+v: %s\nbehind: %q", b.p.id, b.conf, fmt.Sprintf(format, args...), b.calls[from:])
}

func (b *both) call(format string, args ...any) {
	b.calls = append(b.calls, fmt.Sprintf(format, args...))
}

// frames holds what goes out against what the peer sends.
func (b *both) frames(out []string) []string {
	b.t.Helper()
	want := b.p.out
	b.p.out = nil
	for i := range max(len(out), len(want)) {
		var got, m api.Msg
		var s string
		if i < len(out) {
			got, _ = b.codec.Unpack(out[i])
		}
		if i < len(want) {
			m = want[i]
			s, _ = b.codec.Pack(m)
		}
		if i >= len(out) || i >= len(want) || out[i] != s {
			b.fail("%d of %d frames, not %d: %+v, not %+v", i, len(out), len(want), got, m)
		}
	}
	b.same()
	return out
}

// same holds all that can be looked at without a change.
func (b *both) same() {
	b.t.Helper()
	if got, want := b.n.Sizes(), b.p.sizes(); got != want {
		b.fail("sizes %+v, not %+v", got, want)
	}
	if b.n.Time() != b.p.time {
		b.fail("time %d, not %d", b.n.Time(), b.p.time)
	}
	if got := b.n.View(); !slices.Equal(got, b.p.view) {
		b.fail("view %v, not %v", got, b.p.view)
	}
}

func (b *both) tick(draw uint64) []string {
	b.t.Helper()
	b.call("tick %d", draw)
	b.p.tick(draw)
	return b.frames(b.n.Tick(draw))
}

func (b *both) receive(s string) []string {
	b.t.Helper()
	m, _ := b.codec.Unpack(s)
	b.call("receive %d: %+v", len(s), m)
	b.p.receive(b.codec, s)
	return b.frames(b.n.Receive(s))
}

func (b *both) client(session int, s string) ([]string, api.Errno) {
	b.t.Helper()
	b.call("client %d: %.200q", session, s)
	want := b.p.client(session, s)
	out, e := b.n.Client(session, s)
	if e != want {
		b.fail("%d, not %d", e, want)
	}
	return b.frames(out), e
}

func (b *both) replies(session int) string {
	b.t.Helper()
	b.call("replies %d", session)
	want := ""
	if session >= 0 && session < len(b.p.said) {
		want = b.p.said[session]
		b.p.said[session] = ""
	}
	got := b.n.Replies(session)
	if got != want {
		b.fail("%q, not %q", got, want)
	}
	b.same()
	return got
}

func (b *both) wrote() []api.Rec {
	b.t.Helper()
	b.call("wrote")
	want := b.p.wrote
	b.p.wrote = nil
	got := b.n.Wrote()
	if !slices.Equal(got, want) {
		b.fail("%v, not %v", got, want)
	}
	b.same()
	return got
}

func (b *both) record(key string) (api.Rec, bool) {
	b.t.Helper()
	want, there := b.p.store.Peek(key)
	got, some := b.n.Record(key)
	if got != want || some != there {
		b.fail("record of %q: %v, %v, not %v, %v", key, got, some, want, there)
	}
	return got, some
}
