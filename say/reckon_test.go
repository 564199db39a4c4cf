package say

import (
	"fmt"
	"math/rand/v2"
	"regexp"
	"slices"
	"strconv"
	"strings"
	"testing"

	"tattler/api"
)

// answer is all that Read answers.
type answer struct {
	l    []api.Rec
	next int
	e    api.Errno
}

func read(s string, at int) answer {
	l, next, e := Read(s, at)
	return answer{l, next, e}
}

func same(a, b answer) bool {
	return slices.Equal(a.l, b.l) && a.next == b.next && a.e == b.e
}

func short(x any) string {
	s := fmt.Sprintf("%q", fmt.Sprint(x))
	if len(s) > 400 {
		return s[:200] + " .. " + s[len(s)-200:]
	}
	return s
}

func fault(e api.Errno) answer { return answer{e: e} }

// slowItems is what is said of values, written out apart from the program.
func slowItems(l []api.Rec) string {
	s := ""
	for _, r := range l {
		s += fmt.Sprintf("VALUE %s %d %d\r\n%s\r\n", r.Key, r.Flags, len(r.Body), r.Body)
	}
	return s + "END\r\n"
}

func slowStats(l []api.Stat) string {
	s := ""
	for _, x := range l {
		s += fmt.Sprintf("STAT %s %d\r\n", x.Name, x.Value)
	}
	return s + "END\r\n"
}

// An item's first line; the key is held to its length, the numbers to their size, apart.
var firstShape = regexp.MustCompile(`^VALUE ([^\x00-\x20\x7f]+) (0|[1-9][0-9]{0,9}) (0|[1-9][0-9]{0,3})\r\n$`)

// slowRead goes by places, lines' shapes and single bytes.
func slowRead(s string, at int) answer {
	if at < 0 || at > len(s) {
		return fault(1)
	}
	var l []api.Rec
	for {
		line := strings.SplitAfterN(s[at:], "\n", 2)[0]
		whole := strings.HasSuffix(line, "\n")
		if len(strings.TrimSuffix(line, "\n")) > 300 {
			return fault(3)
		}
		if !whole {
			return fault(2)
		}
		at += len(line)
		if line == "END\r\n" {
			return answer{l, at, 0}
		}
		m := firstShape.FindStringSubmatch(line)
		if m == nil || len(m[1]) > 250 {
			return fault(3)
		}
		flags, _ := strconv.Atoi(m[2])
		size, _ := strconv.Atoi(m[3])
		if flags >= 1<<32 || size > 1024 {
			return fault(3)
		}
		for i, b := range []byte{13, 10} {
			if at+size+i >= len(s) {
				return fault(2)
			}
			if s[at+size+i] != b {
				return fault(3)
			}
		}
		l = append(l, api.Rec{Key: m[1], Kind: 3, Flags: uint32(flags), Body: s[at : at+size]})
		at += size + 2
	}
}

// ahead and behind are what else may stand in a text.
func ahead() []string {
	return []string{"", "x", "\r", "\n", "\xff\x00", "END\r\n", "VALUE a 0 9\r\n", "VALUE a 0 0\r\n\r\n", strings.Repeat("x", 301), strings.Repeat("\n", 50)}
}

func behind() []string {
	return []string{"", "x", " ", "\r", "\n", "\r\n", "\n\r\n", "\x00", "END\r\n", "\r\nEND\r\n", "VALUE a 0 0\r\n\r\nEND\r\n", strings.Repeat("x", 301), strings.Repeat("END\r\n", 50)}
}

// led is a text with items ahead of it, and what is read of both.
func led(l []api.Rec, s string, want answer) (string, answer) {
	items := strings.TrimSuffix(slowItems(l), "END\r\n")
	if want.e == api.OK {
		want = answer{append(slices.Clone(l), want.l...), len(items) + want.next, api.OK}
	}
	return items + s, want
}

// reads lays what is read of a text, alone and with items ahead of it, at its own place with other bytes around it, against what it is to be.
func reads(t *testing.T, s string, want answer) {
	t.Helper()
	one := api.Rec{Key: "END", Kind: api.Value, Flags: 7, Body: "\r\n!"}
	two := api.Rec{Key: "VALUE", Kind: api.Value}
	for _, items := range [][]api.Rec{nil, {one}, {two, one, one}} {
		text, want := led(items, s, want)
		if got := slowRead(text, 0); !same(got, want) {
			t.Fatalf("%s by the reckoning: %s, not %s", short(text), short(got), short(want))
		}
		readsAmong(t, text, want)
	}
}

func readsAmong(t *testing.T, s string, want answer) {
	t.Helper()
	for _, a := range ahead() {
		for _, b := range behind() {
			want := want
			if want.e == api.OK {
				want.next += len(a)
			}
			// More bytes may mend or spoil a text that ends too early; any other one they leave as it is.
			if want.e == api.ErrShort && b != "" {
				want = slowRead(a+s+b, len(a))
			}
			if got := read(a+s+b, len(a)); !same(got, want) {
				t.Fatalf("%s behind %s and ahead of %s: %s, not %s", short(s), short(a), short(b), short(got), short(want))
			}
		}
	}
}

func value(key string, flags uint32, body string) api.Rec {
	return api.Rec{Key: key, Kind: api.Value, Flags: flags, Body: body}
}

// says lays what is said of values that may be against a text, and reads it again, whole and each beginning of it.
func says(t *testing.T, text string, l ...api.Rec) {
	t.Helper()
	if got := Items(l); got != text {
		t.Errorf("%s: %s, not %s", short(l), short(got), short(text))
	}
	if got := slowItems(l); got != text {
		t.Errorf("%s by the reckoning: %s, not %s", short(l), short(got), short(text))
	}
	reads(t, text, answer{l, len(text), api.OK})
	isShort(t, text)
}

// isShort lays each beginning of a text, at the front and behind other bytes, against ErrShort.
func isShort(t *testing.T, text string) {
	t.Helper()
	for n := range len(text) {
		for _, a := range []string{"", "x", "END\r\n"} {
			if got := read(a+text[:n], len(a)); !same(got, fault(api.ErrShort)) {
				t.Fatalf("%d bytes of %s behind %q: %s", n, short(text), a, short(got))
			}
		}
	}
}

// isNone lays a text against ErrForm.
func isNone(t *testing.T, texts ...string) {
	t.Helper()
	for _, s := range texts {
		reads(t, s, fault(api.ErrForm))
	}
}

// dice draws what tests are made of: always the same, so that a test fails each time or never.
type dice struct{ *rand.Rand }

func newDice(seed uint64) dice { return dice{rand.New(rand.NewPCG(seed, 9))} }

func one[T any](d dice, l ...T) T { return l[d.IntN(len(l))] }
