package value_test

import (
	"encoding/hex"
	"fmt"
	"math"
	"math/big"
	"math/rand"
	"regexp"
	"slices"
	"strconv"
	"strings"
	"testing"

	"phalanx/api"
	"phalanx/num"
	"phalanx/value"
)

const (
	nan   uint64 = 0x7ff8000000000000
	inf   uint64 = 0x7ff0000000000000
	minus uint64 = 1 << 63
	one   uint64 = 0x3ff0000000000000
)

func number(n int) api.Value   { return api.Value{Kind: api.VInt, N: n} }
func float(f uint64) api.Value { return api.Value{Kind: api.VFloat, F: f} }
func text(s string) api.Value  { return api.Value{Kind: api.VText, S: s} }

// kinds are the four, and such as are none.
func kinds() []int {
	return []int{math.MinInt, -1, api.VNone, api.VInt, api.VFloat, api.VText, 4, 5, 256, math.MaxInt}
}

// numbers are both ends, and those near to powers of two and of ten.
func numbers() []int {
	l := []int{0, math.MaxInt, math.MaxInt - 1, math.MinInt, math.MinInt + 1}
	for i := range 63 {
		l = append(l, 1<<i-1, 1<<i, -1<<i, -1<<i-1)
	}
	for n := 1; n <= math.MaxInt/10; n *= 10 {
		l = append(l, n-1, n, 10*n-1, 7*n, -n, -n+1, -10*n+1, -7*n)
	}
	return l
}

// floats are such as all replicas have, and bits that are no number but NaN's.
func floats() []uint64 {
	return []uint64{0, 1, minus, one, one | minus, inf - 1, inf, inf | minus, nan, 0x0123456789abcdef,
		inf + 1, nan - 1, nan + 1, 0x7fffffffffffffff, inf | minus | 1, nan | minus, math.MaxUint64}
}

// texts are such that are no runes too, some at the bound, and some past it.
func texts() []string {
	return []string{"", "a", "ab", "b", "\x00", "a\x00", "\x7f", "\x80", "\xff", "é", "\xc3", "none", "x", "-",
		strings.Repeat("a", 63), strings.Repeat("a", 64), strings.Repeat("\xff", 64), strings.Repeat("é", 32),
		strings.Repeat("a", 65), strings.Repeat("é", 33), strings.Repeat("\x00", 4096)}
}

// raw are values that hold anything.
func raw() []api.Value {
	l := []api.Value{}
	for _, k := range kinds() {
		for _, n := range []int{0, 1, -1, 7, math.MaxInt, math.MinInt} {
			for _, f := range floats() {
				for _, s := range texts() {
					l = append(l, api.Value{Kind: k, N: n, F: f, S: s})
				}
			}
		}
	}
	return l
}

// few are values at will, always the same ones.
func few(count int) []api.Value {
	all := raw()
	r := rand.New(rand.NewSource(4))
	r.Shuffle(len(all), func(i, j int) { all[i], all[j] = all[j], all[i] })
	return all[:count]
}

// good are values that may be, each one once.
func good() []api.Value {
	l := []api.Value{{}}
	ints := numbers()
	slices.Sort(ints)
	for _, n := range slices.Compact(ints) {
		l = append(l, number(n))
	}
	for _, f := range floats() {
		if num.Make(f) == f {
			l = append(l, float(f))
		}
	}
	for _, s := range texts() {
		if len(s) <= 64 {
			l = append(l, text(s))
		}
	}
	return l
}

// may is Check by what the chapter's words say.
func may(v api.Value) api.Errno {
	short := v
	short.S = ""
	long := len(v.S) > 64
	switch {
	case v == api.Value{}, v == number(v.N), v == float(v.F) && num.Make(v.F) == v.F:
		return api.OK
	case v == text(v.S) && !long:
		return api.OK
	case short == text("") && long:
		return api.ErrLong
	}
	return api.ErrArg
}

// P4.1

func TestCheckKnown(t *testing.T) {
	long := strings.Repeat("a", 65)
	known := []struct {
		v api.Value
		e api.Errno
	}{
		{api.Value{}, api.OK},
		{number(5), api.OK},
		{number(0), api.OK},
		{number(math.MinInt), api.OK},
		{float(0), api.OK},
		{float(minus), api.OK},
		{float(inf | minus), api.OK},
		{float(nan), api.OK},
		{text(""), api.OK},
		{text(long[1:]), api.OK},
		{float(0x7ff0000000000001), api.ErrArg},
		{float(nan + 1), api.ErrArg},
		{float(nan | minus), api.ErrArg},
		{text(long), api.ErrLong},
		{text(strings.Repeat("é", 33)), api.ErrLong},
		{text(strings.Repeat("a", 1<<20)), api.ErrLong},
		{api.Value{Kind: 4}, api.ErrArg},
		{api.Value{Kind: -1}, api.ErrArg},
		{api.Value{N: 1}, api.ErrArg},
		{api.Value{F: 1}, api.ErrArg},
		{api.Value{S: "a"}, api.ErrArg},
		{api.Value{S: long}, api.ErrArg},
		{api.Value{Kind: api.VInt, F: 1}, api.ErrArg},
		{api.Value{Kind: api.VInt, S: "a"}, api.ErrArg},
		{api.Value{Kind: api.VInt, S: long}, api.ErrArg},
		{api.Value{Kind: api.VFloat, F: one, N: 1}, api.ErrArg},
		{api.Value{Kind: api.VFloat, F: one, S: "a"}, api.ErrArg},
		{api.Value{Kind: api.VFloat, F: one, S: long}, api.ErrArg},
		{api.Value{Kind: api.VText, S: "a", N: 1}, api.ErrArg},
		{api.Value{Kind: api.VText, S: "a", F: one}, api.ErrArg},
		{api.Value{Kind: api.VText, S: long, N: 1}, api.ErrArg},
		{api.Value{Kind: api.VText, S: long, F: one}, api.ErrArg},
		{api.Value{Kind: 4, S: long}, api.ErrArg},
	}
	for _, k := range known {
		if got := value.Check(k.v); got != k.e {
			t.Errorf("Check(%.60v) = %d, not %d", k.v, got, k.e)
		}
	}
}

func TestCheckOfAny(t *testing.T) {
	for _, v := range raw() {
		if got, want := value.Check(v), may(v); got != want {
			t.Fatalf("Check(%.60v) = %d, not %d", v, got, want)
		}
	}
	for _, v := range good() {
		if got := value.Check(v); got != api.OK {
			t.Errorf("Check(%v) = %d", v, got)
		}
	}
}

// P4.2

// rising are values in the order, such as may not be among them.
func rising() []api.Value {
	return []api.Value{
		{Kind: math.MinInt, N: 1},
		{Kind: -1},
		{N: math.MinInt}, {N: -1}, {}, {S: "a"}, {F: 1}, {N: 1}, {N: 2},
		number(math.MinInt), number(-2), number(-1), number(0), {Kind: api.VInt, S: "z"}, {Kind: api.VInt, F: nan},
		number(1), number(2), number(10), number(math.MaxInt),
		{Kind: api.VFloat, N: -1, F: nan}, float(inf | minus), float(one | minus), float(minus), float(0),
		{Kind: api.VFloat, S: "a"}, float(1), float(one), float(inf), float(nan), {Kind: api.VFloat, N: 1, F: inf | minus},
		{Kind: api.VText, N: -1, S: "b"}, {Kind: api.VText, F: minus, S: "b"},
		text(""), text("\x00"), text("B"), text("a"), text("a\x00"), text("aa"), text("ab"), text("b"), text("\x7f"),
		text("\x80"), text("é"), text("\xff"), text("\xff\x00"), {Kind: api.VText, F: 1}, {Kind: api.VText, N: 1},
		{Kind: 4}, {Kind: math.MaxInt, N: math.MinInt},
	}
}

func TestOrder(t *testing.T) {
	l := rising()
	for i, a := range l {
		for j, b := range l {
			want := min(max(i-j, -1), 1)
			if got := value.Cmp(a, b); got != want {
				t.Errorf("Cmp(%v, %v) = %d, not %d", a, b, got, want)
			}
		}
	}
}

func TestOrderAtBound(t *testing.T) {
	a, b := text(strings.Repeat("a", 64)), text(strings.Repeat("a", 65))
	c := text(strings.Repeat("a", 1000) + "b")
	if value.Cmp(a, b) != -1 || value.Cmp(b, a) != 1 || value.Cmp(b, c) != -1 || value.Cmp(c, b) != 1 || value.Cmp(c, c) != 0 {
		t.Error("the order of long texts")
	}
}

func TestOrderTakesNoNumberForNaN(t *testing.T) {
	for _, f := range floats() {
		if got, want := value.Cmp(float(f), float(nan)), num.Cmp(f, nan); got != want {
			t.Errorf("Cmp(float %016x, NaN) = %d, not %d", f, got, want)
		}
	}
	a := api.Value{Kind: api.VFloat, F: inf + 1, S: "a"}
	b := api.Value{Kind: api.VFloat, F: math.MaxUint64, S: "b"}
	if value.Cmp(a, b) != -1 || value.Cmp(b, a) != 1 {
		t.Error("behind floats that are the same the texts don't tell")
	}
}

// order is Cmp, field by field.
func order(a, b api.Value) int {
	switch {
	case a.Kind != b.Kind:
		return sign(a.Kind < b.Kind)
	case a.N != b.N:
		return sign(a.N < b.N)
	case num.Cmp(a.F, b.F) != 0:
		return num.Cmp(a.F, b.F)
	}
	for i := range min(len(a.S), len(b.S)) {
		if a.S[i] != b.S[i] {
			return sign(a.S[i] < b.S[i])
		}
	}
	if len(a.S) == len(b.S) {
		return 0
	}
	return sign(len(a.S) < len(b.S))
}

func sign(ahead bool) int {
	if ahead {
		return -1
	}
	return 1
}

func TestOrderOfAny(t *testing.T) {
	l := append(few(700), rising()...)
	for _, a := range l {
		for _, b := range l {
			if got, want := value.Cmp(a, b), order(a, b); got != want {
				t.Fatalf("Cmp(%.60v, %.60v) = %d, not %d", a, b, got, want)
			}
		}
	}
}

// P4.3

func intItem(n int) api.Item     { return api.Item{Kind: api.IInt, N: n} }
func textItem(s string) api.Item { return api.Item{Kind: api.IText, S: s} }

// items are v's, by what the chapter's words say.
func items(v api.Value) []api.Item {
	switch v.Kind {
	case api.VInt:
		return []api.Item{intItem(1), intItem(v.N)}
	case api.VFloat:
		return []api.Item{intItem(2), intItem(int(v.F))}
	case api.VText:
		return []api.Item{intItem(3), textItem(v.S)}
	}
	return []api.Item{intItem(v.Kind)}
}

func TestItemsKnown(t *testing.T) {
	known := []struct {
		v api.Value
		l []api.Item
	}{
		{api.Value{}, []api.Item{intItem(0)}},
		{number(-5), []api.Item{intItem(1), intItem(-5)}},
		{number(0), []api.Item{intItem(1), intItem(0)}},
		{float(one), []api.Item{intItem(2), intItem(0x3ff0000000000000)}},
		{float(minus), []api.Item{intItem(2), intItem(math.MinInt)}},
		{float(math.MaxUint64), []api.Item{intItem(2), intItem(-1)}},
		{text("ab"), []api.Item{intItem(3), textItem("ab")}},
		{text(""), []api.Item{intItem(3), textItem("")}},
		{api.Value{Kind: 4, N: 1, F: 1, S: "a"}, []api.Item{intItem(4)}},
		{api.Value{N: 1, F: 1, S: "a"}, []api.Item{intItem(0)}},
		{api.Value{Kind: api.VInt, N: 1, F: 1, S: "a"}, []api.Item{intItem(1), intItem(1)}},
	}
	for _, k := range known {
		if got := value.Items(k.v); !slices.Equal(got, k.l) {
			t.Errorf("Items(%v) = %v, not %v", k.v, got, k.l)
		}
	}
}

func TestItemsOfAny(t *testing.T) {
	for _, v := range append(raw(), good()...) {
		if got, want := value.Items(v), items(v); !slices.Equal(got, want) {
			t.Fatalf("Items(%.60v) = %.60v, not %.60v", v, got, want)
		}
	}
}

func TestItemsAreNewMemory(t *testing.T) {
	for _, v := range good() {
		l := value.Items(v)
		l[0] = textItem("changed")
		if got, want := value.Items(v), items(v); !slices.Equal(got, want) {
			t.Fatalf("Items(%v) = %v, after its last answer was changed", v, got)
		}
	}
}

// none asks that no value that may be stand in l from at on.
func none(t *testing.T, l []api.Item, at int) {
	t.Helper()
	if v, end, is := value.From(l, at); v != (api.Value{}) || end != 0 || is {
		t.Errorf("From(%.80v, %d) = %.60v, %d, %t", l, at, v, end, is)
	}
}

func TestFromAmongOthers(t *testing.T) {
	others := []api.Item{textItem("a"), {Kind: 9, N: 9, S: "z"}, intItem(3)}
	for _, v := range good() {
		for ahead := range len(others) + 1 {
			for behind := range len(others) + 1 {
				l := slices.Concat(others[:ahead], items(v), others[:behind])
				before := slices.Clone(l)
				got, end, is := value.From(l, ahead)
				if want := ahead + len(items(v)); got != v || end != want || !is {
					t.Errorf("From(%v, %d) = %v, %d, %t, not %v, %d, true", l, ahead, got, end, is, v, want)
				}
				if !slices.Equal(l, before) {
					t.Fatalf("From changed %v", before)
				}
			}
		}
	}
}

// TestFromInARow reads values one behind the other.
func TestFromInARow(t *testing.T) {
	l := []api.Item{}
	for _, v := range good() {
		l = append(l, items(v)...)
	}
	at := 0
	for _, v := range good() {
		got, end, is := value.From(l, at)
		if got != v || !is {
			t.Fatalf("From at %d = %v, %t, not %v, true", at, got, is, v)
		}
		at = end
	}
	if at != len(l) {
		t.Errorf("%d of %d items were read", at, len(l))
	}
	none(t, l, at)
}

func TestFromOutside(t *testing.T) {
	l := []api.Item{intItem(0), intItem(1), intItem(5)}
	for _, at := range []int{math.MinInt, math.MinInt + 1, -3, -2, -1, 3, 4, 5, math.MaxInt - 1, math.MaxInt} {
		none(t, l, at)
		none(t, nil, at)
	}
	none(t, nil, 0)
	none(t, l, 2)
	none(t, l[:2], 1)
	// What lies behind the list's end, in its spare room, isn't in it.
	none(t, l[:1:3], 1)
}

func TestFromCut(t *testing.T) {
	for _, v := range good() {
		l := items(v)
		for n := range len(l) {
			none(t, l[:n], 0)
		}
	}
}

// TestFromOfAny holds From of two items, whatever they are, against a search
// among all values that could be meant.
func TestFromOfAny(t *testing.T) {
	some := []api.Item{}
	for _, k := range []int{-1, 0, 1, 2, 256} {
		for _, n := range append(kinds(), int(inf+1), int(nan), int(one), 2, 3) {
			for _, s := range texts() {
				some = append(some, api.Item{Kind: k, N: n, S: s})
			}
		}
	}
	firsts := []api.Item{}
	for _, x := range some {
		if len(x.S) < 2 && x.N >= -1 && x.N < 6 {
			firsts = append(firsts, x)
		}
	}
	for _, x := range firsts {
		for _, y := range some {
			l := []api.Item{x, y}
			want, end, is := meant(l)
			if v, at, ok := value.From(l, 0); v != want || at != end || ok != is {
				t.Fatalf("From(%.80v, 0) = %.60v, %d, %t, not %.60v, %d, %t", l, v, at, ok, want, end, is)
			}
		}
	}
}

// meant is the value that may be with which two items begin.
func meant(l []api.Item) (api.Value, int, bool) {
	for _, v := range []api.Value{{}, number(l[1].N), float(uint64(l[1].N)), text(l[1].S)} {
		own := items(v)
		if may(v) == api.OK && slices.Equal(own, l[:len(own)]) {
			return v, len(own), true
		}
	}
	return api.Value{}, 0, false
}

func TestFromOfWrongItems(t *testing.T) {
	for _, l := range [][]api.Item{
		{intItem(4)},
		{intItem(4), intItem(1)},
		{intItem(-1), intItem(1)},
		{textItem("")},
		{{Kind: api.IText}, intItem(1)},
		{{Kind: api.IInt, N: 0, S: "a"}},
		{{Kind: 2, N: 0}},
		{{Kind: 2, N: 1}, intItem(1)},
		{{Kind: api.IText, N: 1}, intItem(1)},
		{{Kind: api.IInt, N: 1, S: "a"}, intItem(1)},
		{intItem(1), textItem("")},
		{intItem(1), textItem("1")},
		{intItem(1), {Kind: api.IText, N: 1}},
		{intItem(1), {Kind: api.IInt, N: 1, S: "a"}},
		{intItem(2), textItem("")},
		{intItem(2), {Kind: 2, N: int(one)}},
		{intItem(2), {Kind: api.IInt, N: int(one), S: "a"}},
		{intItem(2), intItem(int(inf + 1))},
		{intItem(2), intItem(-1)},
		{intItem(3), intItem(0)},
		{intItem(3), {Kind: api.IText, N: 1, S: "a"}},
		{intItem(3), {Kind: api.IInt, S: "a"}},
		{intItem(3), textItem(strings.Repeat("a", 65))},
	} {
		none(t, l, 0)
	}
}

// P4.4

func TestTextKnown(t *testing.T) {
	known := []struct {
		v api.Value
		s string
	}{
		{api.Value{}, "none"},
		{number(0), "0"},
		{number(5), "5"},
		{number(-5), "-5"},
		{number(10), "10"},
		{number(-1000), "-1000"},
		{number(math.MaxInt), "9223372036854775807"},
		{number(math.MinInt), "-9223372036854775808"},
		{float(one), "f3ff0000000000000"},
		{float(0), "f0000000000000000"},
		{float(minus), "f8000000000000000"},
		{float(nan), "f7ff8000000000000"},
		{float(inf + 1), "f7ff8000000000000"},
		{text(""), "x"},
		{text("ab"), "x6162"},
		{text("\x00\xff\x0a"), "x00ff0a"},
		{text(strings.Repeat("\x9e", 65)), "x" + strings.Repeat("9e", 65)},
		{api.Value{Kind: 4, N: 1, F: 1, S: "a"}, "none"},
		{api.Value{Kind: -1, N: 1}, "none"},
		{api.Value{N: 1, F: 1, S: "a"}, "none"},
		{api.Value{Kind: api.VInt, N: 1, F: 1, S: "a"}, "1"},
		{api.Value{Kind: api.VFloat, N: 1, F: one, S: "a"}, "f3ff0000000000000"},
		{api.Value{Kind: api.VText, N: 1, F: 1, S: "a"}, "x61"},
	}
	for _, k := range known {
		if got := value.Text(k.v); got != k.s {
			t.Errorf("Text(%.60v) = %q, not %q", k.v, got, k.s)
		}
	}
}

// spelt is v's word, by the library's own means.
func spelt(v api.Value) string {
	switch v.Kind {
	case api.VInt:
		return big.NewInt(int64(v.N)).String()
	case api.VFloat:
		return fmt.Sprintf("f%016x", num.Make(v.F))
	case api.VText:
		return "x" + hex.EncodeToString([]byte(v.S))
	}
	return "none"
}

func TestTextOfAny(t *testing.T) {
	for _, v := range append(raw(), good()...) {
		if got, want := value.Text(v), spelt(v); got != want {
			t.Fatalf("Text(%.60v) = %q, not %q", v, got, want)
		}
	}
}

func TestTextOfEachByte(t *testing.T) {
	for c := range 256 {
		s := string([]byte{byte(c), 'a', byte(c)})
		if got, want := value.Text(text(s)), fmt.Sprintf("x%02x61%02x", c, c); got != want {
			t.Errorf("Text(text %q) = %q, not %q", s, got, want)
		}
	}
}

// refused asks that s be no value's word.
func refused(t *testing.T, s string) {
	t.Helper()
	if v, e := value.Read(s); v != (api.Value{}) || e != api.ErrForm {
		t.Errorf("Read(%.60q) = %v, %d, not the zero value, ErrForm", s, v, e)
	}
}

func TestReadKnown(t *testing.T) {
	known := []struct {
		s string
		v api.Value
	}{
		{"none", api.Value{}},
		{"0", number(0)},
		{"7", number(7)},
		{"-7", number(-7)},
		{"100", number(100)},
		{"9223372036854775807", number(math.MaxInt)},
		{"-9223372036854775807", number(-math.MaxInt)},
		{"-9223372036854775808", number(math.MinInt)},
		{"f0000000000000000", float(0)},
		{"f8000000000000000", float(minus)},
		{"f7ff8000000000000", float(nan)},
		{"ffff0000000000000", float(inf | minus)},
		{"x", text("")},
		{"x00", text("\x00")},
		{"x6162", text("ab")},
		{"xff", text("\xff")},
		{"x" + strings.Repeat("9e", 64), text(strings.Repeat("\x9e", 64))},
	}
	for _, k := range known {
		if got, e := value.Read(k.s); got != k.v || e != api.OK {
			t.Errorf("Read(%q) = %v, %d, not %v, OK", k.s, got, e, k.v)
		}
	}
}

func TestReadOfOtherForms(t *testing.T) {
	for _, s := range []string{"", "-", "--1", "-0", "-00", "00", "05", "-05", "+5", "+0", "5-", "1_0", " 5", "5 ", "5\n", "0x5", "1e3",
		"5.0", "٣", "\xff", "\x00", "\x005", "/", ":", "1/", "1:",
		"9223372036854775808", "-9223372036854775809", "9223372036854775810", "18446744073709551615", "18446744073709551616",
		"-18446744073709551616", "92233720368547758070", "99999999999999999999", "36893488147419103233",
		"None", "NONE", "non", "nonee", "none ", "nil", "n",
		"f", "f0", "f3ff000000000000", "f3ff00000000000000", "f3FF0000000000000", "F3ff0000000000000", "f7ff0000000000001",
		"f7ff8000000000001", "ffff8000000000000", "fffffffffffffffff", "f-3ff000000000000", "3ff0000000000000f",
		"x6", "x616", "x6g", "xg6", "x6A", "xA6", "X61", "x 61", "x61 ", "x-1", "x+1", "xx61", "x6\n", "xéé",
		"x" + strings.Repeat("61", 65), "x" + strings.Repeat("6", 129), "x" + strings.Repeat("6", 127),
		"x" + strings.Repeat("61", 1<<16), strings.Repeat("9", 1<<16), strings.Repeat("0", 1<<16), "-" + strings.Repeat("1", 1<<16),
	} {
		refused(t, s)
	}
}

// TestReadPastTheEnds goes over the ends by a little, in all lengths that do.
func TestReadPastTheEnds(t *testing.T) {
	most, least := big.NewInt(math.MaxInt), big.NewInt(math.MinInt)
	for i := range int64(300) {
		refused(t, new(big.Int).Add(most, big.NewInt(i+1)).String())
		refused(t, new(big.Int).Sub(least, big.NewInt(i+1)).String())
	}
	for i := uint(63); i < 200; i++ {
		great := new(big.Int).Lsh(big.NewInt(1), i)
		for near := range int64(5) {
			n := new(big.Int).Add(great, big.NewInt(near))
			refused(t, n.String())
			if i > 63 || near > 0 {
				refused(t, "-"+n.String())
			}
		}
	}
}

// form is what words look like.
var form = regexp.MustCompile(`\A(none|0|-?[1-9][0-9]*|f[0-9a-f]{16}|x([0-9a-f]{2})*)\z`)

// said is Read, by the library's own means.
func said(s string) (api.Value, api.Errno) {
	if !form.MatchString(s) {
		return api.Value{}, api.ErrForm
	}
	v := api.Value{}
	switch s[0] {
	case 'n':
	case 'f':
		f, _ := strconv.ParseUint(s[1:], 16, 64)
		v = float(f)
	case 'x':
		b, _ := hex.DecodeString(s[1:])
		v = text(string(b))
	default:
		n, err := strconv.Atoi(s)
		if err != nil {
			return api.Value{}, api.ErrForm
		}
		v = number(n)
	}
	if may(v) != api.OK {
		return api.Value{}, api.ErrForm
	}
	return v, api.OK
}

// sameRead asks that Read tell of s what said tells.
func sameRead(t *testing.T, s string) {
	t.Helper()
	v, e := value.Read(s)
	if want, err := said(s); v != want || e != err {
		t.Errorf("Read(%.60q) = %v, %d, not %v, %d", s, v, e, want, err)
	}
}

func TestReadOfAllShort(t *testing.T) {
	letters := "-+019afgnoexAFX \x00\xff"
	l := []string{""}
	for range 4 {
		longer := []string{}
		for _, s := range l {
			for i := range len(letters) {
				longer = append(longer, s+letters[i:i+1])
			}
		}
		for _, s := range longer {
			sameRead(t, s)
		}
		l = longer
	}
}

// TestReadOfEachByte puts each byte in each place of some words, and behind and
// between its bytes too, and leaves each byte out.
func TestReadOfEachByte(t *testing.T) {
	words := []string{"none", "0", "-5", "105", "-9223372036854775808", "9223372036854775807", "f3ff0000000000000",
		"f7ff8000000000000", "x", "x61", "x616263", "x" + strings.Repeat("61", 63), "x" + strings.Repeat("61", 64)}
	for _, w := range words {
		for at := range len(w) + 1 {
			for c := range 256 {
				b := string([]byte{byte(c)})
				sameRead(t, w[:at]+b+w[at:])
				sameRead(t, w[:at]+b+w[min(at+1, len(w)):])
			}
			sameRead(t, w[:at])
			sameRead(t, w[:at]+w[min(at+1, len(w)):])
			sameRead(t, w[at:])
		}
	}
}

// P4.5

func TestThereAndBack(t *testing.T) {
	for _, v := range good() {
		l := value.Items(v)
		if got, end, is := value.From(l, 0); got != v || end != len(l) || !is {
			t.Errorf("From of %v's items = %v, %d, %t", v, got, end, is)
		}
		if got, e := value.Read(value.Text(v)); got != v || e != api.OK {
			t.Errorf("Read of %v's text = %v, %d", v, got, e)
		}
	}
}

// Of values that may not be nothing is read, or just another one that may be.
func TestThereAndBackOfAny(t *testing.T) {
	for _, v := range raw() {
		got, _, is := value.From(value.Items(v), 0)
		if is && value.Check(got) != api.OK || value.Check(v) == api.OK && got != v {
			t.Fatalf("From of %.60v's items = %.60v, %t", v, got, is)
		}
		got, e := value.Read(value.Text(v))
		if value.Check(got) != api.OK || value.Check(v) == api.OK && (got != v || e != api.OK) {
			t.Fatalf("Read of %.60v's text = %.60v, %d", v, got, e)
		}
	}
}

func TestCmpIsZeroJustForTheSame(t *testing.T) {
	l := good()
	for _, a := range l {
		for _, b := range l {
			if got := value.Cmp(a, b); (got == 0) != (a == b) {
				t.Errorf("Cmp(%v, %v) = %d", a, b, got)
			}
		}
	}
}
