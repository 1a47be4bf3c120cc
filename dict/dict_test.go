package dict_test

import (
	"fmt"
	"math"
	"math/rand"
	"slices"
	"strings"
	"testing"

	"phalanx/api"
	"phalanx/dict"
	"phalanx/value"
)

const (
	one uint64 = 0x3ff0000000000000
	nan uint64 = 0x7ff8000000000000
)

func vInt(n int) api.Value      { return api.Value{Kind: api.VInt, N: n} }
func vFloat(f uint64) api.Value { return api.Value{Kind: api.VFloat, F: f} }
func vText(s string) api.Value  { return api.Value{Kind: api.VText, S: s} }

// pair is a key and its value.
func pair(key string, v api.Value) api.Pair { return api.Pair{Key: key, Val: v} }

// pairs are maps with these keys, and numbers from 1 on as values.
func pairs(keys ...string) []api.Pair {
	l := []api.Pair{}
	for i, key := range keys {
		l = append(l, pair(key, vInt(i+1)))
	}
	return l
}

// short is x in few words, all of them to be read.
func short(x any) string { return fmt.Sprintf("%.300q", fmt.Sprint(x)) }

// marked is a pair that is in no map.
var marked = pair("marked", api.Value{Kind: 77, N: 77})

// roomy is l's pairs, with three that are marked in the spare room behind them.
func roomy(l []api.Pair) []api.Pair {
	return slices.Concat(l, []api.Pair{marked, marked, marked})[:len(l)]
}

// keys are such as may be, in their order, and then such as may not.
func keys() []string {
	return []string{
		"", "\x00", "\x00\x00", "a", "a\x00", "aa", "ab", "b", strings.Repeat("k", 64), "\x7f", "\x80", "é", "\xff", "\xff\xff",
		strings.Repeat("k", 65), "b" + strings.Repeat("\x00", 64), strings.Repeat("a", 1000),
	}
}

// good are values that a map may have.
func good() []api.Value {
	return []api.Value{
		vInt(0), vInt(1), vInt(math.MinInt), vInt(math.MaxInt), vFloat(0), vFloat(1 << 63), vFloat(one), vFloat(nan),
		vText(""), vText("a"), vText(strings.Repeat("\x80", 64)),
	}
}

// bad are values that a map may not have: nothing, and such as may not be.
func bad() []api.Value {
	return []api.Value{
		{}, {N: 1}, {F: one}, {S: "a"}, {S: strings.Repeat("v", 65)}, {Kind: 4}, {Kind: -1}, {Kind: 256}, {Kind: math.MinInt, N: 1},
		vText(strings.Repeat("v", 65)), vText(strings.Repeat("v", 1000)), vFloat(nan + 1), vFloat(math.MaxUint64),
		{Kind: api.VInt, F: one}, {Kind: api.VInt, S: strings.Repeat("v", 65)}, {Kind: api.VFloat, N: 1}, {Kind: api.VText, N: 1, S: "a"},
	}
}

// some are maps: all choices of the first nine keys that have at most eight of
// them, with values of all kinds.
func some() [][]api.Pair {
	l, values := [][]api.Pair{}, good()
	for bits := range 1 << 9 {
		m := []api.Pair{}
		for i, key := range keys()[:9] {
			if bits>>i&1 == 1 {
				m = append(m, pair(key, values[(i+bits)%len(values)]))
			}
		}
		if len(m) <= 8 {
			l = append(l, m)
		}
	}
	return l
}

// few are some of them, full ones and the one without pairs among them.
func few() [][]api.Pair {
	l := [][]api.Pair{nil}
	for i, m := range some() {
		if i%29 == 0 || len(m) == 8 {
			l = append(l, m)
		}
	}
	return l
}

// wrong are lists of pairs that are no maps.
func wrong() [][]api.Pair {
	l := [][]api.Pair{
		pairs("b", "a"), pairs("a", "a"), pairs("", ""), pairs("a", ""), pairs("aa", "a"), pairs("a\x00", "a"), pairs("\x80", "\x7f"),
		pairs("a", "c", "b"), pairs("b", "a", "c"), pairs("a", "b", "a"), pairs("é", "z"), pairs("\xff\xff", "\xff"),
		pairs("a", "b", "c", "d", "e", "f", "g", "h", "i"), pairs("a", "b", "c", "d", "e", "f", "g", "h", "h"),
		pairs("a", "b", "c", "d", "e", "f", "g", "g"), pairs(keys()[:14]...), make([]api.Pair, 1), make([]api.Pair, 1000),
		pairs(strings.Repeat("k", 65)), pairs("a", strings.Repeat("k", 65)), pairs(strings.Repeat("k", 65), "l"),
	}
	for _, v := range bad() {
		for i := range 8 {
			m := pairs("a", "b", "c", "d", "e", "f", "g", "h")
			m[i].Val = v
			l = append(l, m, m[i:i+1], m[:i+1])
		}
	}
	return l
}

// right is Right by the chapter's words.
func right(l []api.Pair) bool {
	for i, p := range l {
		if len(p.Key) > 64 || value.Check(p.Val) != api.OK || p.Val.Kind == api.VNone {
			return false
		}
		if i > 0 && slices.Compare([]byte(l[i-1].Key), []byte(p.Key)) >= 0 {
			return false
		}
	}
	return len(l) <= 8
}

// answer is what a call answers: where it has no such result, zero.
type answer struct {
	l []api.Pair
	v api.Value
	e api.Errno
}

// held is what the pairs of l hold.
func held(l []api.Pair) map[string]api.Value {
	m := map[string]api.Value{}
	for _, p := range l {
		m[p.Key] = p.Val
	}
	return m
}

// sorted is m's pairs, in the keys' order.
func sorted(m map[string]api.Value) []api.Pair {
	l := []api.Pair{}
	for key, v := range m {
		l = append(l, pair(key, v))
	}
	slices.SortFunc(l, func(p, q api.Pair) int { return slices.Compare([]byte(p.Key), []byte(q.Key)) })
	return l
}

// get, put, cut and swap are the calls by the chapter's words.
func get(l []api.Pair, key string) answer {
	v, is := held(l)[key]
	switch {
	case !right(l):
		return answer{e: api.ErrArg}
	case !is:
		return answer{e: api.ErrNone}
	}
	return answer{v: v}
}

func put(l []api.Pair, key string, v api.Value) answer {
	m := held(l)
	delete(m, key)
	for _, x := range []struct {
		applies bool
		e       api.Errno
	}{
		{!right(l), api.ErrArg},
		{v.Kind == api.VNone, api.ErrArg},
		{len(key) > 64, api.ErrLong},
		{value.Check(v) != api.OK, value.Check(v)},
		{len(m) == 8, api.ErrFull},
	} {
		if x.applies {
			return answer{l: l, e: x.e}
		}
	}
	m[key] = v
	return answer{l: sorted(m)}
}

func cut(l []api.Pair, key string) answer {
	m := held(l)
	v, is := m[key]
	switch {
	case !right(l):
		return answer{l: l, e: api.ErrArg}
	case !is:
		return answer{l: l, e: api.ErrNone}
	}
	delete(m, key)
	return answer{l: sorted(m), v: v}
}

func swap(l []api.Pair, key string, old, v api.Value) answer {
	there := held(l)[key]
	switch {
	case !right(l):
		return answer{l: l, e: api.ErrArg}
	case there.Kind != old.Kind || there.N != old.N || there.F != old.F || there.S != old.S:
		return answer{l: l, v: there, e: api.ErrUnlike}
	case v.Kind == api.VNone && (v.N != 0 || v.F != 0 || v.S != ""):
		return answer{l: l, e: api.ErrArg}
	case v.Kind == api.VNone:
		m := held(l)
		delete(m, key)
		return answer{l: sorted(m)}
	}
	return put(l, key, v)
}

// The calls themselves.
func theGet(key string) func([]api.Pair) answer {
	return func(l []api.Pair) answer {
		v, e := dict.Get(l, key)
		return answer{v: v, e: e}
	}
}

func thePut(key string, v api.Value) func([]api.Pair) answer {
	return func(l []api.Pair) answer {
		m, e := dict.Put(l, key, v)
		return answer{l: m, e: e}
	}
}

func theCut(key string) func([]api.Pair) answer {
	return func(l []api.Pair) answer {
		m, v, e := dict.Cut(l, key)
		return answer{l: m, v: v, e: e}
	}
}

func theSwap(key string, old, v api.Value) func([]api.Pair) answer {
	return func(l []api.Pair) answer {
		m, there, e := dict.Swap(l, key, old, v)
		return answer{l: m, v: there, e: e}
	}
}

// asks holds what the call answers of l against what it should, and asks it to
// leave what it is given as it is, spare room too, to hand out no memory of it,
// and to keep none.
func asks(t *testing.T, what string, l []api.Pair, call func([]api.Pair) answer, want answer) {
	t.Helper()
	given := roomy(l)
	got := call(given)
	if !slices.Equal(got.l, want.l) || got.v != want.v || got.e != want.e {
		t.Fatalf("%s of %s = %s, not %s", what, short(l), short(got), short(want))
	}
	all := got.l[:cap(got.l)]
	for i := range all {
		all[i] = pair("other", vInt(88))
	}
	if !slices.Equal(given[:len(l)+3], slices.Concat(l, []api.Pair{marked, marked, marked})) {
		t.Fatalf("%s changes what it is given, or hands out memory of it: %s", what, short(l))
	}
	got = call(given)
	for i := range given {
		given[i] = marked
	}
	if !slices.Equal(got.l, want.l) {
		t.Fatalf("%s keeps what it is given: %s", what, short(l))
	}
}

// P10.1

func TestRightKnown(t *testing.T) {
	known := []struct {
		l  []api.Pair
		is bool
	}{
		{nil, true},
		{pairs(""), true},
		{pairs("a", "b"), true},
		{pairs("a", "a"), false},
		{pairs("b", "a"), false},
		{pairs("a", "aa", "b"), true},
		{pairs("aa", "a"), false},
		{pairs("z", "é"), true},
		{pairs("B", "a"), true},
		{pairs("\x7f", "\x80"), true},
		{pairs("a", "b", "c", "d", "e", "f", "g", "h"), true},
		{pairs("a", "b", "c", "d", "e", "f", "g", "h", "i"), false},
		{pairs(strings.Repeat("k", 64)), true},
		{pairs(strings.Repeat("k", 65)), false},
		{[]api.Pair{pair("a", vText(strings.Repeat("v", 64)))}, true},
		{[]api.Pair{pair("a", vText(strings.Repeat("v", 65)))}, false},
		{[]api.Pair{pair("a", vFloat(nan))}, true},
		{[]api.Pair{pair("a", vFloat(nan+1))}, false},
		{[]api.Pair{pair("a", api.Value{})}, false},
		{[]api.Pair{pair("a", api.Value{N: 1})}, false},
		{[]api.Pair{pair("a", api.Value{Kind: 4})}, false},
		{[]api.Pair{pair("a", api.Value{Kind: api.VInt, S: "a"})}, false},
	}
	for _, k := range known {
		if got := dict.Right(k.l); got != k.is {
			t.Errorf("Right(%s) = %v", short(k.l), got)
		}
	}
}

func TestRightOfAny(t *testing.T) {
	for _, l := range slices.Concat(some(), wrong()) {
		given := roomy(l)
		if got, want := dict.Right(given), right(l); got != want {
			t.Fatalf("Right(%s) = %v", short(l), got)
		}
		if !slices.Equal(given[:len(l)+3], slices.Concat(l, []api.Pair{marked, marked, marked})) {
			t.Fatalf("Right changes %s", short(l))
		}
	}
}

// TestRightOfTwo takes each two keys, so that each order of two is there.
func TestRightOfTwo(t *testing.T) {
	for _, a := range keys() {
		for _, b := range keys() {
			for _, l := range [][]api.Pair{pairs(a, b), pairs("", a, b)[1:], pairs("", "\x00", a, b)[1:]} {
				if got, want := dict.Right(l), right(l); got != want {
					t.Fatalf("Right(%s) = %v", short(l), got)
				}
			}
		}
	}
}

// TestRightOfBytes takes each two bytes as keys.
func TestRightOfBytes(t *testing.T) {
	for a := range 256 {
		for b := range 256 {
			l := pairs("k"+string([]byte{byte(a)}), "k"+string([]byte{byte(b)}))
			if got := dict.Right(l); got != (a < b) {
				t.Fatalf("Right(%s) = %v", short(l), got)
			}
		}
	}
}

func TestGetKnown(t *testing.T) {
	l := pairs("a", "c")
	asks(t, "Get of a", l, theGet("a"), answer{v: vInt(1)})
	asks(t, "Get of c", l, theGet("c"), answer{v: vInt(2)})
	for _, key := range []string{"", "A", "a\x00", "b", "cc", "d", strings.Repeat("k", 65)} {
		asks(t, "Get of "+short(key), l, theGet(key), answer{e: api.ErrNone})
	}
	asks(t, "Get of a", nil, theGet("a"), answer{e: api.ErrNone})
	asks(t, "Get of a", pairs("c", "a"), theGet("a"), answer{e: api.ErrArg})
	asks(t, "Get of b", pairs("c", "a"), theGet("b"), answer{e: api.ErrArg})
}

func TestGetOfAny(t *testing.T) {
	all := slices.Concat(some(), wrong())
	for _, key := range keys() {
		for _, l := range all {
			asks(t, "Get of "+short(key), l, theGet(key), get(l, key))
		}
	}
}

// P10.2

func TestPutKnown(t *testing.T) {
	key65, text65 := strings.Repeat("k", 65), vText(strings.Repeat("v", 65))
	full := pairs("a", "b", "c", "d", "e", "f", "g", "h")
	known := []struct {
		l   []api.Pair
		key string
		v   api.Value
		e   api.Errno
	}{
		{pairs("b", "a"), "a", vInt(1), api.ErrArg},
		{pairs("b", "a"), key65, text65, api.ErrArg},
		{append(pairs("a", "b"), full...), "a", vInt(1), api.ErrArg},
		{nil, "a", api.Value{}, api.ErrArg},
		{nil, key65, api.Value{}, api.ErrArg},
		{nil, key65, api.Value{S: text65.S}, api.ErrArg},
		{full, "i", api.Value{}, api.ErrArg},
		{full, "a", api.Value{}, api.ErrArg},
		{nil, "a", api.Value{N: 1}, api.ErrArg},
		{nil, key65, vInt(1), api.ErrLong},
		{nil, key65, api.Value{Kind: 4}, api.ErrLong},
		{nil, key65, vFloat(nan + 1), api.ErrLong},
		{full, key65, vInt(1), api.ErrLong},
		{nil, "a", text65, api.ErrLong},
		{full, "i", text65, api.ErrLong},
		{full, "i", vFloat(nan + 1), api.ErrArg},
		{nil, "a", vFloat(nan + 1), api.ErrArg},
		{nil, "a", api.Value{Kind: api.VInt, S: text65.S}, api.ErrArg},
		{nil, "a", api.Value{Kind: 4, N: 1}, api.ErrArg},
		{full, "i", vInt(1), api.ErrFull},
		{full, "", vInt(1), api.ErrFull},
		{full, "dd", vInt(1), api.ErrFull},
	}
	for _, k := range known {
		asks(t, "Put of "+short(k.key)+short(k.v), k.l, thePut(k.key, k.v), answer{l: k.l, e: k.e})
	}
}

func TestPutInItsPlace(t *testing.T) {
	l := []api.Pair{pair("b", vInt(1)), pair("d", vText("d"))}
	x := vFloat(one)
	for _, k := range []struct {
		key  string
		want []api.Pair
	}{
		{"", []api.Pair{pair("", x), l[0], l[1]}},
		{"a", []api.Pair{pair("a", x), l[0], l[1]}},
		{"b", []api.Pair{pair("b", x), l[1]}},
		{"b\x00", []api.Pair{l[0], pair("b\x00", x), l[1]}},
		{"c", []api.Pair{l[0], pair("c", x), l[1]}},
		{"d", []api.Pair{l[0], pair("d", x)}},
		{"dd", []api.Pair{l[0], l[1], pair("dd", x)}},
		{"\xff", []api.Pair{l[0], l[1], pair("\xff", x)}},
		{strings.Repeat("e", 64), []api.Pair{l[0], l[1], pair(strings.Repeat("e", 64), x)}},
	} {
		asks(t, "Put of "+short(k.key), l, thePut(k.key, x), answer{l: k.want})
	}
	asks(t, "Put of a", nil, thePut("a", x), answer{l: []api.Pair{pair("a", x)}})
}

// TestPutIntoFull: who is there already finds room, also in a full map.
func TestPutIntoFull(t *testing.T) {
	full := pairs("a", "b", "c", "d", "e", "f", "g", "h")
	for i, p := range full {
		want := slices.Clone(full)
		want[i].Val = vText("x")
		asks(t, "Put of "+p.Key, full, thePut(p.Key, vText("x")), answer{l: want})
		less := slices.Delete(slices.Clone(full), i, i+1)
		asks(t, "Put of "+p.Key, less, thePut(p.Key, p.Val), answer{l: full})
	}
}

func TestPutOfAny(t *testing.T) {
	values := slices.Concat(good(), bad())
	for _, l := range slices.Concat(few(), wrong()) {
		for _, key := range keys() {
			for _, v := range values {
				asks(t, "Put of "+short(key)+short(v), l, thePut(key, v), put(l, key, v))
			}
		}
	}
}

func TestPutOfSome(t *testing.T) {
	for i, l := range some() {
		for _, key := range keys() {
			asks(t, "Put of "+short(key), l, thePut(key, vInt(i)), put(l, key, vInt(i)))
		}
	}
}

// P10.3

func TestCutKnown(t *testing.T) {
	l := []api.Pair{pair("a", vInt(2)), pair("b", vText("b")), pair("c", vFloat(one))}
	asks(t, "Cut of a", l, theCut("a"), answer{l: l[1:], v: vInt(2)})
	asks(t, "Cut of b", l, theCut("b"), answer{l: []api.Pair{l[0], l[2]}, v: vText("b")})
	asks(t, "Cut of c", l, theCut("c"), answer{l: l[:2], v: vFloat(one)})
	asks(t, "Cut of a", l[:1], theCut("a"), answer{v: vInt(2)})
	for _, key := range []string{"", "A", "a\x00", "aa", "bb", "cc", "d", strings.Repeat("k", 65)} {
		asks(t, "Cut of "+short(key), l, theCut(key), answer{l: l, e: api.ErrNone})
	}
	asks(t, "Cut of a", nil, theCut("a"), answer{e: api.ErrNone})
	asks(t, "Cut of a", pairs("b", "a"), theCut("a"), answer{l: pairs("b", "a"), e: api.ErrArg})
	asks(t, "Cut of c", pairs("b", "a"), theCut("c"), answer{l: pairs("b", "a"), e: api.ErrArg})
}

func TestCutOfAny(t *testing.T) {
	all := slices.Concat(some(), wrong())
	for _, key := range keys() {
		for _, l := range all {
			asks(t, "Cut of "+short(key), l, theCut(key), cut(l, key))
		}
	}
}

// P10.4

func TestSwapKnown(t *testing.T) {
	nothing, key65, text65 := api.Value{}, strings.Repeat("k", 65), vText(strings.Repeat("v", 65))
	l := []api.Pair{pair("a", vInt(2)), pair("c", vText("c"))}
	full := pairs("a", "b", "c", "d", "e", "f", "g", "h")
	known := []struct {
		l      []api.Pair
		key    string
		old, v api.Value
		want   answer
	}{
		{l, "a", nothing, vInt(1), answer{l, vInt(2), api.ErrUnlike}},
		{l, "a", vInt(1), vInt(1), answer{l, vInt(2), api.ErrUnlike}},
		{l, "a", vInt(1), nothing, answer{l, vInt(2), api.ErrUnlike}},
		{l, "a", api.Value{Kind: api.VInt, N: 2, S: "a"}, vInt(1), answer{l, vInt(2), api.ErrUnlike}},
		{l, "a", api.Value{Kind: api.VInt, N: 2, F: 1}, vInt(1), answer{l, vInt(2), api.ErrUnlike}},
		{l, "a", api.Value{Kind: api.VFloat, N: 2}, vInt(1), answer{l, vInt(2), api.ErrUnlike}},
		{l, "a", vInt(1), api.Value{N: 1}, answer{l, vInt(2), api.ErrUnlike}},
		{l, "c", vText("C"), text65, answer{l, vText("c"), api.ErrUnlike}},
		{l, "b", vInt(1), vInt(1), answer{l, nothing, api.ErrUnlike}},
		{l, "b", api.Value{N: 1}, vInt(1), answer{l, nothing, api.ErrUnlike}},
		{l, "b", api.Value{S: "a"}, nothing, answer{l, nothing, api.ErrUnlike}},
		{l, key65, vInt(1), vInt(1), answer{l, nothing, api.ErrUnlike}},
		{l, "a", vInt(2), nothing, answer{l[1:], nothing, api.OK}},
		{l, "c", vText("c"), nothing, answer{l[:1], nothing, api.OK}},
		{l, "b", nothing, nothing, answer{l, nothing, api.OK}},
		{l, key65, nothing, nothing, answer{l, nothing, api.OK}},
		{nil, "a", nothing, nothing, answer{nil, nothing, api.OK}},
		{full, "i", nothing, nothing, answer{full, nothing, api.OK}},
		{l, "a", vInt(2), vInt(3), answer{[]api.Pair{pair("a", vInt(3)), l[1]}, nothing, api.OK}},
		{l, "a", vInt(2), vInt(2), answer{l, nothing, api.OK}},
		{l, "b", nothing, vInt(3), answer{[]api.Pair{l[0], pair("b", vInt(3)), l[1]}, nothing, api.OK}},
		{full, "h", vInt(8), vText("h"), answer{append(full[:7:7], pair("h", vText("h"))), nothing, api.OK}},
		{full, "i", nothing, vInt(1), answer{full, nothing, api.ErrFull}},
		{l, "a", vInt(2), api.Value{N: 1}, answer{l, nothing, api.ErrArg}},
		{l, "a", vInt(2), api.Value{S: text65.S}, answer{l, nothing, api.ErrArg}},
		{l, "b", nothing, api.Value{F: one}, answer{l, nothing, api.ErrArg}},
		{l, key65, nothing, api.Value{F: one}, answer{l, nothing, api.ErrArg}},
		{l, key65, nothing, vInt(1), answer{l, nothing, api.ErrLong}},
		{full, key65, nothing, vInt(1), answer{full, nothing, api.ErrLong}},
		{l, "a", vInt(2), text65, answer{l, nothing, api.ErrLong}},
		{full, "i", nothing, text65, answer{full, nothing, api.ErrLong}},
		{l, "a", vInt(2), vFloat(nan + 1), answer{l, nothing, api.ErrArg}},
		{l, "a", vInt(2), api.Value{Kind: 4}, answer{l, nothing, api.ErrArg}},
		{pairs("b", "a"), "a", nothing, vInt(1), answer{pairs("b", "a"), nothing, api.ErrArg}},
		{pairs("b", "a"), "a", vInt(2), vInt(1), answer{pairs("b", "a"), nothing, api.ErrArg}},
		{pairs("b", "a"), "c", nothing, nothing, answer{pairs("b", "a"), nothing, api.ErrArg}},
	}
	for _, k := range known {
		asks(t, "Swap of "+short(k.key)+short(k.old)+short(k.v), k.l, theSwap(k.key, k.old, k.v), k.want)
	}
}

// olds are what may be thought to be there, with what is there among them.
func olds(l []api.Pair, key string) []api.Value {
	there := held(l)[key]
	more := []api.Value{there, there, there, there, {}, {N: 1}, vInt(1), vInt(0), vFloat(1 << 63), vText("")}
	more[0].Kind++
	more[1].N++
	more[2].F++
	more[3].S += "x"
	return append(more, there)
}

func TestSwapOfAny(t *testing.T) {
	values := slices.Concat(good(), bad())
	for i, l := range slices.Concat(few(), wrong()) {
		for j, key := range keys() {
			for k, old := range olds(l, key) {
				v := values[(i+5*j+k)%len(values)]
				asks(t, "Swap of "+short(key)+short(old)+short(v), l, theSwap(key, old, v), swap(l, key, old, v))
			}
			for _, v := range values {
				old := held(l)[key]
				asks(t, "Swap of "+short(key)+short(old)+short(v), l, theSwap(key, old, v), swap(l, key, old, v))
			}
		}
	}
}

// P10.5

// same holds what l has at each key against m.
func same(t *testing.T, what string, l []api.Pair, m map[string]api.Value) {
	t.Helper()
	if !dict.Right(l) {
		t.Fatalf("behind %s %s is no map", what, short(l))
	}
	for _, key := range keys() {
		v, e := dict.Get(l, key)
		want, is := m[key]
		if v != want || (e == api.OK) != is {
			t.Fatalf("behind %s %s has %s at %s, not %s", what, short(l), short(v), short(key), short(want))
		}
	}
}

// TestRunsAtWill: maps that come of any calls hold what the calls put in, and
// may be.
func TestRunsAtWill(t *testing.T) {
	r := rand.New(rand.NewSource(10))
	values := slices.Concat(good(), bad())
	for range 60 {
		l, m := []api.Pair(nil), map[string]api.Value{}
		for range 200 {
			key, v := keys()[r.Intn(len(keys()))], values[r.Intn(len(values))]
			old := m[key]
			if r.Intn(4) == 0 {
				old = values[r.Intn(len(values))]
			}
			what, e, there := "Put", api.OK, m[key]
			switch r.Intn(4) {
			case 0:
				what = "Cut"
				l, _, e = dict.Cut(l, key)
				v = api.Value{}
			case 1:
				what = "Swap"
				l, _, e = dict.Swap(l, key, old, v)
				if e == api.OK && old != there {
					t.Fatalf("Swap of %s, where %s is", short(old), short(there))
				}
			default:
				l, e = dict.Put(l, key, v)
			}
			if e == api.OK {
				m[key] = v
			}
			if m[key] == (api.Value{}) {
				delete(m, key)
			}
			same(t, what, l, m)
		}
	}
}

// TestEachPutOfFew: behind Put the key has that value, each other key what it had.
func TestEachPutOfFew(t *testing.T) {
	for _, l := range few() {
		for _, key := range keys()[:14] {
			for _, v := range good() {
				m, e := dict.Put(l, key, v)
				h := held(l)
				if e == api.OK {
					h[key] = v
				}
				same(t, "Put", m, h)
			}
		}
	}
}

// TestAnyOrderOfPuts: all orders of putting the same pairs give the same map.
func TestAnyOrderOfPuts(t *testing.T) {
	r := rand.New(rand.NewSource(105))
	full := pairs("", "a", "a\x00", "aa", "b", "k", "\x80", "\xff")
	for range 300 {
		l := []api.Pair(nil)
		for _, i := range r.Perm(len(full)) {
			l, _ = dict.Put(l, full[i].Key, full[i].Val)
		}
		if !slices.Equal(l, full) {
			t.Fatalf("puts of %s give %s", short(full), short(l))
		}
		for _, i := range r.Perm(len(full)) {
			m, v, e := dict.Cut(l, full[i].Key)
			if v != full[i].Val || e != api.OK || len(m) != len(l)-1 || !dict.Right(m) {
				t.Fatalf("Cut of %s from %s = %s, %s, %d", short(full[i].Key), short(l), short(m), short(v), e)
			}
			l = m
		}
	}
}

func ExamplePut() {
	l, _ := dict.Put(nil, "b", api.Value{Kind: api.VInt, N: 1})
	l, e := dict.Put(l, "a", api.Value{Kind: api.VInt, N: 2})
	fmt.Println(l, e)
	_, e = dict.Put(l, "c", api.Value{})
	fmt.Println(e)
	// Output:
	// [{a {1 2 0 }} {b {1 1 0 }}] 0
	// 1
}

func ExampleSwap() {
	l, _ := dict.Put(nil, "a", api.Value{Kind: api.VInt, N: 2})
	l, there, e := dict.Swap(l, "a", api.Value{}, api.Value{Kind: api.VInt, N: 1})
	fmt.Println(l, there, e)
	l, there, e = dict.Swap(l, "a", there, api.Value{})
	fmt.Println(l, there, e)
	// Output:
	// [{a {1 2 0 }}] {1 2 0 } 9
	// [] {0 0 0 } 0
}
