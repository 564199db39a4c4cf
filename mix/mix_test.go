package mix

import (
	"math/big"
	"strconv"
	"strings"
	"testing"

	"tattler/api"
)

const most = 1<<64 - 1

// slowMix follows the chapter's words with numbers that don't wrap round by themselves.
func slowMix(x uint64) uint64 {
	modulus := new(big.Int).Lsh(big.NewInt(1), 64)
	n := new(big.Int).SetUint64(x)
	fold := func(bits uint) { n.Xor(n, new(big.Int).Quo(n, new(big.Int).Lsh(big.NewInt(1), bits))) }
	times := func(factor uint64) {
		n.Mul(n, new(big.Int).SetUint64(factor))
		n.Mod(n, modulus)
	}
	fold(30)
	times(0xBF58476D1CE4E5B9)
	fold(27)
	times(0x94D049BB133111EB)
	fold(31)
	return n.Uint64()
}

func slowText(s string) uint64 {
	h := uint64(0x9E3779B97F4A7C15)
	for _, b := range []byte(s) {
		h = slowMix(h ^ uint64(b))
	}
	return slowMix(h ^ uint64(len(s)))
}

// unfold takes back x xor x / 2^bits.
func unfold(x uint64, bits uint) uint64 {
	y := x
	for range 64 / bits {
		y = x ^ y>>bits
	}
	return y
}

// unmix takes Mix back: the factors are the inverses of Mix's modulo 2^64.
func unmix(x uint64) uint64 {
	x = unfold(x, 31) * 0x319642B2D24D8EC3
	x = unfold(x, 27) * 0x96DE1B173F119089
	return unfold(x, 30)
}

// numbers are the edges, every single bit and its neighbours, and some in between.
func numbers() []uint64 {
	l := []uint64{0, most, 0x9E3779B97F4A7C15, 0x123456789ABCDEF0, 0xBF58476D1CE4E5B9, 0x94D049BB133111EB}
	for bit := range 64 {
		p := uint64(1) << bit
		l = append(l, p-1, p, p+1, most-p)
	}
	for i := range uint64(200) {
		l = append(l, i*0xD1342543DE82EF95+1)
	}
	return l
}

// everyByte has each of the 256 bytes once, so it is no valid UTF-8.
func everyByte() string {
	b := make([]byte, 256)
	for i := range b {
		b[i] = byte(i)
	}
	return string(b)
}

func texts() []string {
	l := []string{"", "a", "ab", "ba", "\x00", "\x00\x00", "\r\n", "é", "\xc3", "\xa9\xc3", "日本", everyByte(),
		everyByte() + everyByte(), strings.Repeat("a", api.MaxKey), strings.Repeat("\xff", 1000)}
	for i := range 256 {
		l = append(l, string([]byte{byte(i)}), "k"+string([]byte{byte(i)})+"z")
	}
	return l
}

// P1.1: examples and values that were reckoned apart from this program.
func TestMixValues(t *testing.T) {
	for _, c := range []struct{ x, want uint64 }{
		{0, 0},
		{1, 0x5692161D100B05E5},
		{2, 0xDBD238973A2B148A},
		{3, 0x1E535EEDE31428F0},
		{0xFF, 0x33914DAE20F87536},
		{1 << 30, 0x2BA0091CC9E3CEFF},
		{1 << 31, 0xEC105BF588587C9F},
		{1 << 32, 0xD820B7E910B0F93F},
		{1 << 63, 0x25C26EA579CEA98A},
		{most, 0xB4D055FCF2CBBD7B},
		{0x9E3779B97F4A7C15, 0xE220A8397B1DCDAF},
		{0x123456789ABCDEF0, 0x9629F58E8EC5B906},
	} {
		if y := Mix(c.x); y != c.want {
			t.Errorf("Mix(%#x): %#x, not %#x", c.x, y, c.want)
		}
	}
}

// P1.1
func TestMixAsSaid(t *testing.T) {
	for _, x := range numbers() {
		if y, want := Mix(x), slowMix(x); y != want {
			t.Errorf("Mix(%#x): %#x, not %#x", x, y, want)
		}
	}
}

// P1.1, and P1.3 of the same texts.
func TestTextAndRangeValues(t *testing.T) {
	for _, c := range []struct {
		name, s string
		want    uint64
		rang    int
	}{
		{"empty", "", 0xE220A8397B1DCDAF, 56},
		{"a", "a", 0x2971C9EBFB09C2CA, 10},
		{"b", "b", 0x3AB8E022AC51B86F, 14},
		{"ab", "ab", 0x5CB66A998D8F4CCC, 23},
		{"ba", "ba", 0x705B3077A54F1220, 28},
		{"one nought", "\x00", 0x9E0160293A33AAF7, 39},
		{"two noughts", "\x00\x00", 0x5E1B26E5D41A8C17, 23},
		{"byte 255", "\xff", 0x69D6664D174CCC57, 26},
		{"a rune of two bytes", "\xc3\xa9", 0x5A326F305635BB80, 22},
		{"no runes", "\x80\x81", 0x3C80B550312BCFA1, 15},
		{"every byte", everyByte(), 0x6D08AA6EBAD69C77, 27},
		{"the longest key", strings.Repeat("a", api.MaxKey), 0xF6341EA9834BC982, 61},
		{"long", strings.Repeat("a", 100000), 0x08ED30E5954856DF, 2},
		{"a key", "tattler:key:1", 0x9C0A6CBE8A87B3EF, 39},
	} {
		if h := Text(c.s); h != c.want {
			t.Errorf("Text of %s: %#x, not %#x", c.name, h, c.want)
		}
		if r := Range(c.s); r != c.rang {
			t.Errorf("Range of %s: %d, not %d", c.name, r, c.rang)
		}
	}
}

// P1.1
func TestTextAndRangeAsSaid(t *testing.T) {
	for _, s := range texts() {
		want := slowText(s)
		if h := Text(s); h != want {
			t.Errorf("Text(%q): %#x, not %#x", s, h, want)
		}
		if r := Range(s); r != int(want/(1<<58)) {
			t.Errorf("Range(%q): %d, not %d", s, r, want/(1<<58))
		}
	}
}

// P1.1
func TestTwoValues(t *testing.T) {
	for _, c := range []struct{ x, y, want uint64 }{
		{0, 0, 0},
		{1, 0, 0x7AB40E090F363A7D},
		{0, 1, 0x5692161D100B05E5},
		{1, 1, 0x83EC686C1600460A},
		{2, 1, 0x3EC2D42F3A45CC6E},
		{1, 2, 0xEF30B01C2974AEEB},
		{most, most, 0xD6BDF7544574C9CB},
		{0, most, 0xB4D055FCF2CBBD7B},
		{most, 0, 0x4BFFD802EBFB15E4},
		{1 << 63, 1 << 63, 0xBE81805BB5950A37},
	} {
		if z := Two(c.x, c.y); z != c.want {
			t.Errorf("Two(%#x, %#x): %#x, not %#x", c.x, c.y, z, c.want)
		}
	}
}

// P1.1
func TestTwoAsSaid(t *testing.T) {
	l := numbers()
	for i, x := range l {
		y := l[(i*7+3)%len(l)]
		if z, want := Two(x, y), slowMix(slowMix(x)^y); z != want {
			t.Errorf("Two(%#x, %#x): %#x, not %#x", x, y, z, want)
		}
	}
}

// P1.2: what can be taken back was one to one.
func TestMixIsOneToOne(t *testing.T) {
	for _, x := range numbers() {
		if back := unmix(Mix(x)); back != x {
			t.Errorf("Mix(%#x) comes back as %#x", x, back)
		}
		if there := Mix(unmix(x)); there != x {
			t.Errorf("no number is mixed to %#x, but to %#x", x, there)
		}
	}
	seen := map[uint64]uint64{}
	for x := range uint64(100000) {
		y := Mix(x)
		if other, ok := seen[y]; ok {
			t.Fatalf("%d and %d are both mixed to %#x", other, x, y)
		}
		seen[y] = x
	}
}

// P1.2
func TestTwoIsOneToOneInItsSecond(t *testing.T) {
	l := numbers()
	for _, x := range []uint64{0, 1, 2, 1 << 63, most, 0x123456789ABCDEF0} {
		for _, y := range l {
			if back := unmix(Two(x, y)) ^ Mix(x); back != y {
				t.Errorf("Two(%#x, %#x) comes back as %#x", x, y, back)
			}
		}
		seen := map[uint64]uint64{}
		for y := range uint64(10000) {
			z := Two(x, y)
			if other, ok := seen[z]; ok {
				t.Fatalf("Two(%#x, %d) and Two(%#x, %d) are both %#x", x, other, x, y, z)
			}
			seen[z] = y
		}
	}
}

// P1.3
func TestRangeIsInRange(t *testing.T) {
	for _, s := range texts() {
		if r := Range(s); r < 0 || r >= api.Ranges {
			t.Errorf("Range(%q): %d", s, r)
		}
	}
	var keys [api.Ranges]int
	for i := range 6400 {
		r := Range("key" + strconv.Itoa(i))
		if r < 0 || r >= api.Ranges {
			t.Fatalf("Range of key%d: %d", i, r)
		}
		keys[r]++
	}
	for r, n := range keys {
		if n < 50 || n > 200 {
			t.Errorf("range %d has %d of 6400 keys", r, n)
		}
	}
}
