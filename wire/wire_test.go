package wire_test

import (
	"fmt"
	"maps"
	"math"
	"math/big"
	"math/rand"
	"slices"
	"strings"
	"testing"

	"phalanx/api"
	"phalanx/wire"
)

func number(n int) api.Item  { return api.Item{Kind: api.IInt, N: n} }
func text(s string) api.Item { return api.Item{Kind: api.IText, S: s} }

// numbers are both ends, and those near to where one byte more is needed.
func numbers() []int {
	l := []int{0, math.MaxInt, math.MinInt}
	for i := range 63 {
		for near := -2; near <= 2; near++ {
			l = append(l, 1<<i+near, -(1<<i + near))
		}
	}
	return l
}

// texts are such that are no runes too, and such whose lengths are near to where
// one byte more is needed.
func texts() []string {
	l := []string{"", "a", "ab", "\x00", "\xff", "\x10", "\x00\x00", "é", "\xc3", "\x80\x80", "a\x00b"}
	for _, n := range []int{127, 128, 254, 255, 256, 257, 511, 512, 4095, 4096, 16380, 16381} {
		l = append(l, strings.Repeat("q", n))
	}
	return l
}

// some are lists at will, always the same.
func some(count int) [][]api.Item {
	r := rand.New(rand.NewSource(3))
	all := [][]api.Item{}
	for range count {
		l := []api.Item{}
		for range r.Intn(8) {
			b := make([]byte, r.Intn(6))
			r.Read(b)
			l = append(l, number(int(r.Uint64())>>r.Intn(64)), text(string(b)))
		}
		r.Shuffle(len(l), func(i, j int) { l[i], l[j] = l[j], l[i] })
		all = append(all, l)
	}
	return all
}

// lists are each number, each text, some of both, and none.
func lists() [][]api.Item {
	all := append(some(300), nil)
	for _, n := range numbers() {
		all = append(all, []api.Item{number(n)}, []api.Item{number(n), number(-1), text("")})
	}
	for _, s := range texts() {
		all = append(all, []api.Item{text(s)})
	}
	return all
}

// least are the least bytes of a number, and ahead of them their number and more.
func least(more int, n *big.Int) string {
	b := n.Bytes()
	return string(rune(more+len(b))) + string(b)
}

// words makes the bytes by what the chapter's words say, in numbers without end.
func words(l []api.Item) string {
	s := ""
	for _, x := range l {
		if x.Kind == api.IText {
			s += least(16, big.NewInt(int64(len(x.S)))) + x.S
			continue
		}
		n := big.NewInt(int64(x.N))
		n.Mul(n, big.NewInt(2))
		if x.N < 0 {
			n.Sub(n.Neg(n), big.NewInt(1))
		}
		s += least(0, n)
	}
	return s
}

// encode encodes a list that has bytes.
func encode(t *testing.T, l []api.Item) string {
	t.Helper()
	s, e := wire.Encode(l)
	if e != api.OK {
		t.Fatalf("Encode(%s): error %d", show(l), e)
	}
	return s
}

// decoded asks that s be the bytes of l.
func decoded(t *testing.T, s string, l []api.Item) {
	t.Helper()
	if got, e := wire.Decode(s); e != api.OK || !slices.Equal(got, l) {
		t.Errorf("Decode(%.80q) = %s, error %d, not %s", s, show(got), e, show(l))
	}
}

// refused asks that s be no list's bytes.
func refused(t *testing.T, s string, want api.Errno) {
	t.Helper()
	if l, e := wire.Decode(s); e != want || len(l) != 0 {
		t.Errorf("Decode(%.80q) = %s, error %d, not %d", s, show(l), e, want)
	}
}

// show shows the beginning of a list.
func show(l []api.Item) string { return fmt.Sprintf("%.200s", fmt.Sprintf("%+v", l)) }

// known are lists and their bytes.
func known() map[string][]api.Item {
	return map[string][]api.Item{
		"":                                     nil,
		"\x00":                                 {number(0)},
		"\x01\x01":                             {number(-1)},
		"\x01\x02":                             {number(1)},
		"\x01\x03":                             {number(-2)},
		"\x01\xfe":                             {number(127)},
		"\x01\xff":                             {number(-128)},
		"\x02\x01\x00":                         {number(128)},
		"\x02\x01\x01":                         {number(-129)},
		"\x02\xff\xff":                         {number(-32768)},
		"\x03\x01\x00\x00":                     {number(32768)},
		"\x07\xff\xff\xff\xff\xff\xff\xff":     {number(-1 << 55)},
		"\x08\x01\x00\x00\x00\x00\x00\x00\x00": {number(1 << 55)},
		"\x08\xff\xff\xff\xff\xff\xff\xff\xfe": {number(math.MaxInt)},
		"\x08\xff\xff\xff\xff\xff\xff\xff\xff": {number(math.MinInt)},
		"\x10":                                 {text("")},
		"\x11\x02ab":                           {text("ab")},
		"\x11\x01\x00":                         {text("\x00")},
		"\x11\x02é":                            {text("é")},
		"\x10\x00\x11\x01\x11\x01\x01":         {text(""), number(0), text("\x11"), number(-1)},

		"\x11\xff" + strings.Repeat("x", 255):                {text(strings.Repeat("x", 255))},
		"\x12\x01\x00" + strings.Repeat("x", 256):            {text(strings.Repeat("x", 256))},
		"\x12\x3f\xfd" + strings.Repeat("x", 16381):          {text(strings.Repeat("x", 16381))},
		"\x12\x3f\xfc" + strings.Repeat("x", 16380) + "\x10": {text(strings.Repeat("x", 16380)), text("")},
	}
}

// P3.1

func TestEncodeKnown(t *testing.T) {
	for s, l := range known() {
		if got := encode(t, l); got != s {
			t.Errorf("Encode(%s) = %.80q, not %.80q", show(l), got, s)
		}
	}
}

func TestEncodeIsAsTheWordsSay(t *testing.T) {
	for _, l := range lists() {
		if got, want := encode(t, l), words(l); got != want {
			t.Errorf("Encode(%s) = %.80q, not %.80q", show(l), got, want)
		}
	}
}

// wrong are items that may not be.
func wrong() []api.Item {
	return []api.Item{
		{Kind: 2}, {Kind: -1}, {Kind: 16}, {Kind: 256}, {Kind: math.MaxInt}, {Kind: math.MinInt},
		{Kind: 2, N: 1}, {Kind: 2, S: "a"},
		{Kind: api.IInt, S: "a"}, {Kind: api.IInt, S: "\x00"}, {Kind: api.IInt, N: 1, S: "a"},
		{Kind: api.IText, N: 1}, {Kind: api.IText, N: -1, S: "a"}, {Kind: api.IText, N: math.MinInt, S: "ab"},
	}
}

// unencoded asks that Encode tell just that error.
func unencoded(t *testing.T, l []api.Item, want api.Errno) {
	t.Helper()
	if s, e := wire.Encode(l); s != "" || e != want {
		t.Errorf("Encode of %d items = %.80q, error %d, not %d", len(l), s, e, want)
	}
}

func TestEncodeOfWhatMayNotBe(t *testing.T) {
	for _, x := range wrong() {
		unencoded(t, []api.Item{x}, api.ErrArg)
		unencoded(t, []api.Item{x, number(1)}, api.ErrArg)
		unencoded(t, []api.Item{number(1), text("a"), x}, api.ErrArg)
	}
}

// body is a list of just n bytes, by noughts.
func body(n int) []api.Item { return make([]api.Item, n) }

func TestEncodeOfTooMuch(t *testing.T) {
	long := func(n int) api.Item { return text(strings.Repeat("x", n)) }
	unencoded(t, body(api.MaxBody+1), api.ErrLong)
	unencoded(t, append(body(api.MaxBody), number(0)), api.ErrLong)
	unencoded(t, append(body(api.MaxBody-1), number(1)), api.ErrLong)
	unencoded(t, append(body(api.MaxBody), text("")), api.ErrLong)
	unencoded(t, append(body(1), long(16381)), api.ErrLong)
	unencoded(t, append([]api.Item{long(16381)}, number(0)), api.ErrLong)
	unencoded(t, []api.Item{long(8190), long(8190)}, api.ErrLong)
	for _, n := range []int{16382, 16383, 16384, 16385, 65535, 65536, 1 << 24} {
		unencoded(t, []api.Item{long(n)}, api.ErrLong)
	}
}

func TestEncodeOfJustEnough(t *testing.T) {
	for _, l := range [][]api.Item{
		body(api.MaxBody),
		append(body(api.MaxBody-2), number(1)),
		append(body(api.MaxBody-9), number(math.MinInt)),
		append(body(api.MaxBody-1), text("")),
		append(body(2), text(strings.Repeat("x", 16379))),
		{text(strings.Repeat("\xff", 16381))},
	} {
		s := encode(t, l)
		if len(s) != api.MaxBody || s != words(l) {
			t.Errorf("Encode of %d items has %d bytes", len(l), len(s))
		}
		decoded(t, s, l)
	}
}

// What may not be is told ahead of what is too long, wherever it stands.
func TestEncodeTellsErrArgFirst(t *testing.T) {
	for _, x := range wrong() {
		unencoded(t, append(body(api.MaxBody+1), x), api.ErrArg)
		unencoded(t, append([]api.Item{x}, body(api.MaxBody+1)...), api.ErrArg)
		unencoded(t, []api.Item{text(strings.Repeat("x", 20000)), x}, api.ErrArg)
	}
	unencoded(t, []api.Item{{Kind: api.IInt, S: strings.Repeat("x", 20000)}}, api.ErrArg)
}

func TestEncodeLeavesItsList(t *testing.T) {
	whole := []api.Item{number(-5), text("ab"), number(7), text("spare")}
	kept := slices.Clone(whole)
	encode(t, whole[:2])
	wire.Encode(append(whole[:3:3], api.Item{Kind: 9}))
	if !slices.Equal(whole, kept) {
		t.Errorf("the list is %v now, it was %v", whole, kept)
	}
}

// P3.2

func TestDecodeKnown(t *testing.T) {
	for s, l := range known() {
		decoded(t, s, l)
	}
}

func TestDecodeOfTooMuch(t *testing.T) {
	for _, b := range []string{"\x00", "\x10", "\x09", "\xff", "x"} {
		refused(t, strings.Repeat(b, api.MaxBody+1), api.ErrLong)
		refused(t, strings.Repeat(b, 1<<20), api.ErrLong)
	}
	refused(t, "\x12\x3f\xfe"+strings.Repeat("x", 16382), api.ErrLong)
	refused(t, words(body(api.MaxBody))+"\x09", api.ErrLong)
}

// behind tells how many bytes stand behind a first byte, if each of them is 1.
func behind(first int) (int, bool) {
	switch first {
	case 0, 1, 2, 3, 4, 5, 6, 7, 8:
		return first, true
	case 16:
		return 0, true
	case 17:
		return 1 + 1, true
	case 18:
		return 2 + 257, true
	}
	return 0, false
}

func TestDecodeOfFirstBytes(t *testing.T) {
	for first := range 256 {
		whole, is := behind(first)
		for n := range 300 {
			s := string([]byte{byte(first)}) + strings.Repeat("\x01", n)
			if is && n == whole {
				l, e := wire.Decode(s)
				if e != api.OK || len(l) != 1 || words(l) != s {
					t.Errorf("Decode(%.80q) = %s, error %d", s, show(l), e)
				}
			}
			if !is || n < whole {
				refused(t, s, api.ErrForm)
			}
		}
	}
}

func TestDecodeOfNoForm(t *testing.T) {
	for _, s := range []string{
		"\x01", "\x01\x00", "\x02", "\x02\x01", "\x02\x00\x01", "\x02\x00\x00", "\x03\x00\x01\x01",
		"\x08\x00\xff\xff\xff\xff\xff\xff\xff", "\x08\xff\xff\xff\xff\xff\xff\xff",
		"\x09", "\x09\x01\x01\x01\x01\x01\x01\x01\x01\x01", "\x0f", "\x13", "\x13\x01\x00\x00", "\x14", "\x80", "\xff",
		"\x11", "\x11\x00", "\x11\x00a", "\x11\x01", "\x11\x02a", "\x11\xff", "\x12", "\x12\x01", "\x12\x00\x00",
		"\x12\x00\x01a", "\x12\x01\x00", "\x12\x01\x00" + strings.Repeat("x", 255),
		"\x12\xff\xff" + strings.Repeat("x", 16370), "\x12\x3f\xfe" + strings.Repeat("x", 16370),
	} {
		refused(t, s, api.ErrForm)
		refused(t, "\x00\x11\x01a\x01\x02"+s, api.ErrForm)
	}
}

// A body that is full is refused for its form, if it has a wrong one.
func TestDecodeOfNoFormAtTheEnd(t *testing.T) {
	full := strings.Repeat("\x00", api.MaxBody-1)
	for _, c := range []string{"\x01", "\x08", "\x09", "\x0f", "\x11", "\x12", "\x13", "\xff"} {
		refused(t, full+c, api.ErrForm)
	}
	refused(t, "\x12\x3f\xfe"+strings.Repeat("x", 16381), api.ErrForm)
}

// shorts are all lists of at most three bytes, by their bytes.
func shorts() map[string][]api.Item {
	items := map[string]api.Item{"\x00": number(0), "\x10": text("")}
	for n := -32768; n <= 32767; n++ {
		items[words([]api.Item{number(n)})] = number(n)
	}
	for c := range 256 {
		items["\x11\x01"+string([]byte{byte(c)})] = text(string([]byte{byte(c)}))
	}
	all := map[string][]api.Item{"": nil}
	for range 3 {
		for s, l := range maps.Clone(all) {
			if len(s) == 3 {
				continue
			}
			longer := map[string][]api.Item{}
			for b, x := range items {
				if len(s)+len(b) <= 3 {
					longer[s+b] = append(slices.Clone(l), x)
				}
			}
			maps.Copy(all, longer)
		}
	}
	return all
}

// TestDecodeOfShorts holds all runs of at most two bytes, and many of three,
// against the lists that there are.
func TestDecodeOfShorts(t *testing.T) {
	all := shorts()
	try := func(b ...byte) {
		s := string(b)
		if l, is := all[s]; is {
			decoded(t, s, l)
		} else {
			refused(t, s, api.ErrForm)
		}
	}
	try()
	edges := []byte{19, 20, 31, 32, 64, 127, 128, 129, 254, 255}
	for c := range 19 {
		edges = append(edges, byte(c))
	}
	for a := range 256 {
		try(byte(a))
		for b := range 256 {
			try(byte(a), byte(b))
			if slices.Contains(edges, byte(a)) {
				for _, c := range edges {
					try(byte(a), byte(b), c)
				}
			}
		}
	}
}

// What is answered is the caller's: no later answer has a part in it.
func TestDecodeAnswersNewLists(t *testing.T) {
	s := "\x11\x02ab\x01\x02\x00"
	l, _ := wire.Decode(s)
	other, _ := wire.Decode(s)
	for i := range l[:cap(l)] {
		l[:cap(l)][i] = number(99)
	}
	want := []api.Item{text("ab"), number(1), number(0)}
	if !slices.Equal(other, want) {
		t.Errorf("one answer's items stand in another: %v", other)
	}
	decoded(t, s, want)
}

// P3.3

func TestDecodeOfEncode(t *testing.T) {
	for _, l := range lists() {
		decoded(t, encode(t, l), l)
	}
}

// TestEncodeOfDecode: whatever has a list is just that list's bytes, so no two
// runs of bytes are one list.
func TestEncodeOfDecode(t *testing.T) {
	r := rand.New(rand.NewSource(4))
	were := 0
	for _, l := range some(2000) {
		b := []byte(encode(t, l))
		for range 20 {
			if len(b) == 0 {
				break
			}
			b[r.Intn(len(b))] = []byte{0, 1, 2, 8, 9, 16, 17, 18, 19, byte(r.Intn(256))}[r.Intn(10)]
			got, e := wire.Decode(string(b))
			if e != api.OK {
				refused(t, string(b), api.ErrForm)
				continue
			}
			were++
			if again := encode(t, got); again != string(b) {
				t.Fatalf("Encode of Decode(%q) = %q", b, again)
			}
		}
	}
	if were < 1000 {
		t.Errorf("only %d of them were lists", were)
	}
}

func TestEncodeOfTwo(t *testing.T) {
	l := some(120)
	for i := range l[1:] {
		both := append(slices.Clone(l[i]), l[i+1]...)
		if got, want := encode(t, both), encode(t, l[i])+encode(t, l[i+1]); got != want {
			t.Errorf("Encode(%v) = %q, the parts' bytes are %q", both, got, want)
		}
	}
}

// cutEverywhere cuts the list's bytes at each place.
func cutEverywhere(t *testing.T, l []api.Item) {
	t.Helper()
	ends := map[int]int{0: 0} // how many items end at a place
	at := 0
	for i, x := range l {
		at += len(words([]api.Item{x}))
		ends[at] = i + 1
	}
	s := encode(t, l)
	for at := range len(s) + 1 {
		if n, between := ends[at]; between {
			decoded(t, s[:at], l[:n])
		} else {
			refused(t, s[:at], api.ErrForm)
		}
	}
}

func TestCutAnywhere(t *testing.T) {
	for _, l := range some(150) {
		cutEverywhere(t, l)
	}
	for _, n := range numbers() {
		cutEverywhere(t, []api.Item{number(n), text("\x00\x00"), number(n)})
	}
	cutEverywhere(t, []api.Item{text(strings.Repeat("\x00", 300)), number(1 << 40), text(strings.Repeat("\x09", 255))})
}
