package crc_test

import (
	"hash/crc32"
	"math/bits"
	"strings"
	"testing"

	"phalanx/crc"
)

// states are some states to go on from, the ends and single bits among them.
func states() []uint32 {
	l := []uint32{0, 1, 0x7fffffff, 0x80000000, 0xffffffff, 0xedb88320, 0xcbf43926, 0x12345678}
	for i := range 32 {
		l = append(l, 1<<i)
	}
	return l
}

// texts are ordinary ones, and such that are no runes.
func texts() []string {
	l := []string{"", "a", "abc", "123456789", "message digest", "\x00", "\x00\x00\x00\x00", "\xff",
		"\xff\xff\xff\xff", "é", "\u2028", "\xc3", "\x80\x80", "a\x00b", strings.Repeat("x", 16384)}
	all := make([]byte, 256)
	for i := range all {
		all[i] = byte(i)
		l = append(l, string(all[i:i+1]), string(all[:i+1]))
	}
	return l
}

// words does what the chapter's words say, one by one.
func words(c uint32, s string) uint32 {
	for _, b := range []byte(s) {
		c ^= 0xffffffff
		c ^= uint32(b)
		for range 8 {
			if c%2 == 1 {
				c = c/2 ^ 0xedb88320
			} else {
				c /= 2
			}
		}
		c ^= 0xffffffff
	}
	return c
}

// P1.1

func TestSumKnown(t *testing.T) {
	known := []struct {
		s string
		c uint32
	}{
		{"", 0},
		{"123456789", 0xcbf43926},
		{"a", 0xe8b7be43},
		{"abc", 0x352441c2},
		{"\x00", 0xd202ef8d},
		{"\xff", 0xff000000},
		{"\x00\x00\x00\x00", 0x2144df1c},
		{"\xff\xff\xff\xff", 0xffffffff},
		{"The quick brown fox jumps over the lazy dog", 0x414fa339},
	}
	for _, k := range known {
		if c := crc.Sum(k.s); c != k.c {
			t.Errorf("Sum(%q) = %08x, not %08x", k.s, c, k.c)
		}
	}
}

func TestMoreIsAsTheWordsSay(t *testing.T) {
	for _, s := range texts() {
		for _, c := range states() {
			want := words(c, s)
			if got := crc.More(c, s); got != want {
				t.Fatalf("More(%08x, %.20q) = %08x, not %08x", c, s, got, want)
			}
			if other := crc32.Update(c, crc32.IEEETable, []byte(s)); other != want {
				t.Fatalf("the library has %08x for More(%08x, %.20q), not %08x", other, c, s, want)
			}
		}
	}
}

func TestMoreOfNothing(t *testing.T) {
	for _, c := range states() {
		if got := crc.More(c, ""); got != c {
			t.Errorf("More(%08x, no bytes) = %08x", c, got)
		}
	}
}

func TestSumBeginsWithZero(t *testing.T) {
	for _, s := range texts() {
		if got, want := crc.Sum(s), crc.More(0, s); got != want {
			t.Errorf("Sum(%.20q) = %08x, More from 0 is %08x", s, got, want)
		}
	}
}

func TestSumKeepsNothing(t *testing.T) {
	first := crc.Sum("123456789")
	crc.More(0xffffffff, "something else")
	if again := crc.Sum("123456789"); again != first {
		t.Errorf("Sum is %08x at first, then %08x", first, again)
	}
}

// P1.2

func TestText(t *testing.T) {
	known := []struct {
		c uint32
		s string
	}{
		{0, "\x00\x00\x00\x00"},
		{1, "\x01\x00\x00\x00"},
		{0x80, "\x80\x00\x00\x00"},
		{0x100, "\x00\x01\x00\x00"},
		{0x80000000, "\x00\x00\x00\x80"},
		{0x04030201, "\x01\x02\x03\x04"},
		{0xcbf43926, "\x26\x39\xf4\xcb"},
		{0xffffffff, "\xff\xff\xff\xff"},
	}
	for _, k := range known {
		if s := crc.Text(k.c); s != k.s {
			t.Errorf("Text(%08x) = %q, not %q", k.c, s, k.s)
		}
		if c, ok := crc.Read(k.s); c != k.c || !ok {
			t.Errorf("Read(%q) = %08x, %v, not %08x, true", k.s, c, ok, k.c)
		}
	}
}

func TestReadOfText(t *testing.T) {
	for _, c := range states() {
		if got, ok := crc.Read(crc.Text(c)); got != c || !ok {
			t.Errorf("Read(Text(%08x)) = %08x, %v", c, got, ok)
		}
	}
}

func TestReadOfOtherLengths(t *testing.T) {
	for n := range 600 {
		if n == 4 {
			continue
		}
		for _, b := range []string{"\x00", "\x01", "\xff", "a"} {
			if c, ok := crc.Read(strings.Repeat(b, n)); c != 0 || ok {
				t.Errorf("Read of %d bytes %q = %08x, %v, not 0, false", n, b, c, ok)
			}
		}
	}
}

func TestReadCountsBytes(t *testing.T) {
	if c, ok := crc.Read("éé"); c != 0xa9c3a9c3 || !ok {
		t.Errorf("Read of two runes in four bytes = %08x, %v", c, ok)
	}
	if c, ok := crc.Read("éééé"); c != 0 || ok {
		t.Errorf("Read of four runes in eight bytes = %08x, %v", c, ok)
	}
}

// P1.3

func TestParts(t *testing.T) {
	for _, s := range texts() {
		for at := 0; at <= len(s); at += 1 + len(s)/17 {
			if got, want := crc.More(crc.Sum(s[:at]), s[at:]), crc.Sum(s); got != want {
				t.Fatalf("%.20q cut at %d: %08x, whole %08x", s, at, got, want)
			}
		}
	}
}

// mixed is s with the four bytes of d mixed in, from at on.
func mixed(s string, at int, d uint32) string {
	b := []byte(s)
	for i := range 4 {
		b[at+i] ^= byte(d >> (8 * i))
	}
	return string(b)
}

func TestNeighboursDiffer(t *testing.T) {
	for _, s := range []string{"abcd", "123456789", strings.Repeat("\x00", 40), strings.Repeat("\xff", 40)} {
		for at := range len(s) - 3 {
			for _, d := range states()[1:] {
				for turn := range 32 {
					if d := bits.RotateLeft32(d, turn); crc.Sum(mixed(s, at, d)) == crc.Sum(s) {
						t.Fatalf("%q with %08x mixed in at %d has the same sum", s, d, at)
					}
				}
			}
		}
	}
}

// How two sums differ hangs on how the texts differ alone, and adds up by
// exclusive or: so all differences of four bytes tell, if those of one bit each
// are independent of one another.
func TestAllNeighboursDiffer(t *testing.T) {
	for n := 4; n <= 200; n += 7 {
		s := strings.Repeat("q", n)
		for at := range n - 3 {
			if r := rank(s, at); r != 32 {
				t.Fatalf("of %d bytes, at %d: rank %d, not 32", n, at, r)
			}
		}
	}
}

// rank is how many of the sums' differences by one bit of four bytes are
// independent of one another.
func rank(s string, at int) int {
	tops := [32]uint32{}
	n := 0
	for i := range 32 {
		d := crc.Sum(mixed(s, at, 1<<i)) ^ crc.Sum(s)
		for d != 0 {
			top := bits.Len32(d) - 1
			if tops[top] == 0 {
				tops[top] = d
				n++
				break
			}
			d ^= tops[top]
		}
	}
	return n
}

func TestDifferencesAddUp(t *testing.T) {
	zero := strings.Repeat("\x00", 8)
	for _, a := range states() {
		for _, b := range states() {
			got := crc.Sum(mixed("abcdefgh", 2, a^b)) ^ crc.Sum("abcdefgh")
			want := crc.Sum(mixed(zero, 2, a)) ^ crc.Sum(mixed(zero, 2, b))
			if got != want {
				t.Fatalf("%08x and %08x: %08x, not %08x", a, b, got, want)
			}
		}
	}
}
