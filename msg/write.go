package msg

import (
	"strings"

	"tattler/api"
	"tattler/num"
	"tattler/rec"
)

// writer lays out the body of a message that may be: so nothing in it is refused by the layers below.
type writer struct {
	strings.Builder
}

// write is the body of a message that may be.
func write(m api.Msg) string {
	w := &writer{}
	w.numbers(uint64(m.Id), uint64(m.Target), uint64(m.Range), bit(m.Flag))
	writeList(w, m.News, w.news)
	writeList(w, m.Keys, w.text)
	writeList(w, m.Recs, w.record)
	writeList(w, m.Seen, w.seen)
	writeList(w, m.Digests, w.digest)
	return w.String()
}

func bit(flag bool) uint64 {
	if flag {
		return 1
	}
	return 0
}

func writeList[T any](w *writer, l []T, one func(T)) {
	w.numbers(uint64(len(l)))
	for _, x := range l {
		one(x)
	}
}

func (w *writer) numbers(l ...uint64) {
	for _, n := range l {
		s, _ := num.Put(n)
		w.WriteString(s)
	}
}

func (w *writer) text(t string) { w.WriteString(num.PutText(t)) }

func (w *writer) news(x api.News) {
	w.numbers(uint64(x.Node), uint64(x.Member.State), uint64(x.Member.Inc))
}

func (w *writer) record(r api.Rec) {
	s, _ := rec.Put(r)
	w.WriteString(s)
}

func (w *writer) seen(x api.Seen) {
	w.text(x.Key)
	w.numbers(x.Stamp.Phys, uint64(x.Stamp.Logical), uint64(x.Stamp.Node), uint64(x.Kind))
}

func (w *writer) digest(d uint64) { w.numbers(d/half, d%half) }
