package msg

import (
	"math"

	"tattler/api"
	"tattler/num"
	"tattler/rec"
)

// reader goes through a body. The first fault ends it by a panic with its error: so nothing behind a fault is looked at, and the one that comes first is told.
type reader struct {
	s  string
	at int
}

// read is the message that a frame is.
func read(f api.Frame) (m api.Msg, e api.Errno) {
	defer func() {
		if fault := recover(); fault != nil {
			// Anything but an error would be a fault of the program's own: that isn't hidden here.
			m, e = api.Msg{}, fault.(api.Errno)
		}
	}()
	in := &reader{s: f.Body}
	m = in.message()
	in.need(in.at == len(in.s))
	m.Kind, m.From, m.To = f.Kind, f.From, f.To
	return m, api.OK
}

// need ends the reading if what was read may not be.
func (in *reader) need(may bool) {
	if !may {
		panic(api.ErrForm)
	}
}

// pass goes on behind what was read, or ends the reading if it couldn't be.
func (in *reader) pass(next int, e api.Errno) {
	if e != api.OK {
		panic(e)
	}
	in.at = next
}

func (in *reader) message() api.Msg {
	var m api.Msg
	m.Id = uint32(in.number(0, math.MaxUint32))
	m.Target = in.node()
	m.Range = uint8(in.number(0, api.Ranges-1))
	m.Flag = in.number(0, 1) == 1
	m.News = readList(in, in.news)
	m.Keys = readList(in, in.key)
	m.Recs = readList(in, in.record)
	m.Seen = readList(in, in.seen)
	m.Digests = readList(in, in.digest)
	return m
}

func readList[T any](in *reader, one func() T) []T {
	var l []T
	for range in.number(0, api.MaxList) {
		l = append(l, one())
	}
	return l
}

func (in *reader) number(least, most uint64) uint64 {
	n, next, e := num.Get(in.s, in.at)
	in.pass(next, e)
	in.need(n >= least && n <= most)
	return n
}

func (in *reader) node() uint8 { return uint8(in.number(0, api.MaxNodes-1)) }

func (in *reader) key() string {
	key, next, e := num.GetText(in.s, in.at, api.MaxKey)
	in.pass(next, e)
	in.need(rec.KeyMay(key))
	return key
}

func (in *reader) news() api.News {
	var x api.News
	x.Node = in.node()
	x.Member.State = uint8(in.number(api.Alive, api.Left))
	x.Member.Inc = uint32(in.number(0, api.MaxInc))
	return x
}

func (in *reader) record() api.Rec {
	r, next, e := rec.Get(in.s, in.at)
	in.pass(next, e)
	return r
}

func (in *reader) seen() api.Seen {
	var x api.Seen
	x.Key = in.key()
	x.Stamp.Phys = in.number(0, api.MaxTime)
	x.Stamp.Logical = uint32(in.number(0, api.MaxLogical))
	x.Stamp.Node = in.node()
	x.Kind = uint8(in.number(api.Marker, api.Value))
	return x
}

func (in *reader) digest() uint64 {
	high := in.number(0, half-1)
	return high*half + in.number(0, half-1)
}
