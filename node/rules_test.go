package node

import (
	"reflect"
	"slices"
	"strings"
	"testing"
	"unsafe"

	"tattler/api"
)

// R1: a nil node: ErrArg, and none.
func TestNil(t *testing.T) {
	var n *Node
	if out, e := n.Client(0, "version\r\n"); len(out) != 0 || e != api.ErrArg {
		t.Error(out, e)
	}
	if out, e := n.Client(-1, strings.Repeat("x", 5000)); len(out) != 0 || e != api.ErrArg {
		t.Error(out, e)
	}
	r, some := n.Record("a")
	if len(n.Tick(1)) != 0 || len(n.Receive("x")) != 0 || n.Replies(0) != "" || len(n.Wrote()) != 0 || r != (api.Rec{}) || some ||
		len(n.View()) != 0 || n.Time() != 0 || n.Sizes() != (api.Sizes{}) {
		t.Error("a nil node answers something")
	}
}

// R1, R3: keys that may not be have no record.
func TestRecordOfAnyKey(t *testing.T) {
	b := start(t, 1)
	b.says(0, "set a 0 0 1\r\nx\r\n", api.Stored)
	for _, key := range []string{"", "b", "A", "a ", " a", "a\x00", strings.Repeat("a", 251), strings.Repeat("a", 1<<16)} {
		b.has(key, api.Rec{})
	}
}

// mem is a text in memory that a test may write over.
func mem(s string) ([]byte, string) {
	b := []byte(s)
	return b, unsafe.String(unsafe.SliceData(b), len(b))
}

// R3: bytes and frames that were handed over are not kept: they may be written over, whatever the node still has of them.
func TestKeepsNothing(t *testing.T) {
	for _, cut := range []int{1, 2, 7, 1000} {
		for _, nodes := range []int{1, 3} {
			c := conf(nodes)
			a, b := newBoth(t, c, 0, 10, false), newBoth(t, c, 0, 10, false)
			text := "set a 5 0 2\r\nxy\r\nset b 0 9 3 noreply\r\nuvw\r\ntouch a 7\r\ndelete b\r\nget a b\r\nfoo\r\nget c\r\nver"
			for rest := text; rest != ""; {
				raw, s := mem(rest[:min(cut, len(rest))])
				want, _ := a.client(0, strings.Clone(s))
				rest = rest[len(s):]
				got, _ := b.n.Client(0, s)
				for i := range raw {
					raw[i] = '!'
				}
				if !slices.Equal(got, want) {
					t.Fatalf("%q", rest)
				}
			}
			push, _ := a.codec.Pack(api.Msg{Kind: api.MsgPush, From: uint8(nodes - 1), News: []api.News{{Node: 2, Member: isDead(3)}}, Recs: []api.Rec{value("p", at(9, 0, 1), "pushed"), tomb("q", at(9, 0, 1))}})
			raw, s := mem(push)
			a.receive(strings.Clone(s))
			b.n.Receive(s)
			for i := range raw {
				raw[i] = '!'
			}
			for i := range uint64(5) {
				if !slices.Equal(a.tick(i), b.n.Tick(i)) || a.replies(0) != b.n.Replies(0) {
					t.Fatal("tick", i)
				}
			}
			for _, key := range []string{"a", "b", "c", "p", "q"} {
				x, _ := a.record(key)
				if y, _ := b.n.Record(key); x != y {
					t.Errorf("%q: %v, %v", key, x, y)
				}
			}
			if x, y := a.wrote(), b.n.Wrote(); !slices.Equal(x, y) {
				t.Errorf("%v, %v", x, y)
			}
		}
	}
}

// scrawl writes over an answer: its lists, spare room too, and its texts.
func scrawl(frames []string, recs []api.Rec, members []api.Member, texts ...string) {
	for _, r := range recs {
		texts = append(texts, r.Key, r.Body)
	}
	for _, s := range append(texts, frames...) {
		raw := unsafe.Slice(unsafe.StringData(s), len(s))
		for i := range raw {
			raw[i] = '!'
		}
	}
	for i := range frames[:cap(frames)] {
		frames[:cap(frames)][i] = "scrawl"
	}
	for i := range recs[:cap(recs)] {
		recs[:cap(recs)][i] = api.Rec{Key: "scrawl", Kind: 77}
	}
	for i := range members[:cap(members)] {
		members[:cap(members)][i] = api.Member{State: 9}
	}
}

// R3: what was answered may be written over, and the node doesn't change by it. Of two nodes that are handed the same, the answers of one are.
func TestAnswersAreFresh(t *testing.T) {
	for _, nodes := range []int{1, 2, 3} {
		a, b := newBoth(t, conf(nodes), 0, 10, false), newBoth(t, conf(nodes), 0, 10, false)
		hand := func(got []string, want []string) {
			t.Helper()
			if !slices.Equal(got, want) {
				t.Fatalf("%d frames, not %d", len(got), len(want))
			}
			scrawl(got, nil, nil)
		}
		lines := []string{"set a 5 0 2\r\nxy\r\n", "set bb 0 9 3\r\nuvw\r\nset cc 1 0 1\r\nz\r\n", "get a bb cc\r\n", "touch a 7\r\ndelete cc\r\n", "get a bb cc\r\nstats\r\n"}
		for i := range uint64(25) {
			text := lines[i%uint64(len(lines))]
			want, e := a.client(0, text)
			got, f := b.n.Client(0, text)
			if e != f {
				t.Fatal(e, f)
			}
			hand(got, want)
			if nodes > 1 {
				m := api.Msg{Kind: uint8(1 + i%14), From: 1, Id: 3, Target: uint8(i % 2), Keys: []string{"a"}, News: []api.News{{Node: 1, Member: suspect(uint32(i))}}, Range: uint8(i)}
				m.Recs = []api.Rec{value("a", at(10+i, 0, 1), "from 1")}
				s, _ := a.codec.Pack(m)
				hand(b.n.Receive(s), a.receive(s))
			}
			hand(b.n.Tick(i), a.tick(i))
			x, y := a.wrote(), b.n.Wrote()
			if !slices.Equal(x, y) {
				t.Fatalf("%v, not %v", y, x)
			}
			said := b.n.Replies(0)
			if said != a.replies(0) {
				t.Fatalf("%q", said)
			}
			scrawl(nil, y, b.n.View(), said)
			for _, key := range []string{"a", "bb", "cc"} {
				r, _ := b.n.Record(key)
				if want, _ := a.record(key); r != want {
					t.Fatalf("%q: %+v, not %+v", key, r, want)
				}
				scrawl(nil, []api.Rec{r}, nil)
			}
			if !slices.Equal(b.n.View(), a.n.View()) || a.n.Sizes() != b.n.Sizes() {
				t.Fatalf("%v, %+v", b.n.View(), b.n.Sizes())
			}
		}
	}
}

// R3: what was answered stays as it was, whatever is asked behind it.
func TestAnswersStay(t *testing.T) {
	b := start(t, 2)
	b.says(0, "set a 0 0 1\r\nx\r\nset b 0 0 1\r\ny\r\n", "")
	said, wrote, view, frames := b.n.Replies(1), b.n.Wrote(), b.n.View(), b.n.Tick(0)
	r, _ := b.n.Record("a")
	was := []any{said, slices.Clone(wrote), slices.Clone(view), slices.Clone(frames), r}
	for i := range uint64(9) {
		b.n.Client(1, "set c 0 0 1\r\nz\r\nset a 0 0 1\r\nq\r\n")
		b.n.Wrote()
		b.n.Tick(i)
		b.n.Replies(1)
	}
	if !reflect.DeepEqual([]any{said, wrote, view, frames, r}, was) {
		t.Errorf("%v", was)
	}
}

// R2: nodes side by side know nothing of one another; what one does the other one would have done.
func TestSideBySide(t *testing.T) {
	a, b := start(t, 1), newBoth(t, conf(2), 1, 50, true)
	a.says(0, "set a 0 0 1\r\nx\r\n", api.Stored)
	b.says(0, "set a 0 0 1\r\ny\r\n", api.Busy)
	b.gets(api.Msg{Kind: api.MsgPush, To: 1, News: []api.News{{Node: 0, Member: isDead(0)}}, Recs: []api.Rec{value("a", at(49, 0, 0), "z")}})
	a.ticks(2)
	a.has("a", value("a", at(10, 0, 0), "x"))
	b.has("a", value("a", at(49, 0, 0), "z"))
	if a.n.Time() != 12 || b.n.Time() != 50 || len(a.n.View()) != 1 || b.n.View()[0] != isDead(0) || len(b.wrote()) != 0 {
		t.Errorf("%d, %d", a.n.Time(), b.n.Time())
	}
	a.said(0, "")
	b.said(0, "")
}

// P24.1: what can be looked at can be looked at again; Replies and Wrote tell each thing once.
func TestLooks(t *testing.T) {
	b := start(t, 1)
	b.says(0, "set a 0 0 1\r\nx\r\nset b 0 0 1\r\ny\r\ntouch a 1\r\n", api.Stored+api.Stored+api.Touched)
	b.said(0, "")
	b.said(1, "")
	for range 3 {
		b.has("a", api.Rec{Key: "a", Stamp: at(10, 2, 0), Kind: api.Value, Expiry: 11, Body: "x"})
		b.same()
	}
	l := b.wrote()
	if len(l) != 3 || l[0] != value("a", at(10, 0, 0), "x") || l[1] != value("b", at(10, 1, 0), "y") || l[2].Stamp != at(10, 2, 0) || len(b.wrote()) != 0 {
		t.Errorf("%v", l)
	}
	b.says(0, "delete a\r\n", api.Deleted)
	if l := b.wrote(); len(l) != 1 || l[0] != tomb("a", at(10, 3, 0)) {
		t.Errorf("%v", l)
	}
}
