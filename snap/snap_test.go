package snap_test

import (
	"fmt"
	"math"
	"slices"
	"strings"
	"testing"

	"phalanx/api"
	"phalanx/apply"
	"phalanx/snap"
	"phalanx/wire"
)

// noughts are the bytes of so many numbers 0.
func noughts(n int) string { return strings.Repeat("\x00", n) }

// encode encodes a state that may be.
func encode(t *testing.T, s api.State) string {
	t.Helper()
	b, e := snap.Encode(s)
	if e != api.OK {
		t.Fatalf("Encode of %s: error %d", short(s), e)
	}
	return b
}

// bytesOf is the bytes of items that may be.
func bytesOf(t *testing.T, l []api.Item) string {
	t.Helper()
	b, e := wire.Encode(l)
	if e != api.OK {
		t.Fatalf("%s has no bytes: error %d", short(l), e)
	}
	return b
}

// refused asks that b be no state's bytes.
func refused(t *testing.T, b string, want api.Errno) {
	t.Helper()
	if s, e := snap.Decode(b); e != want || !nothing(s) {
		t.Fatalf("Decode of %.300q = %s, error %d, not %d", b, short(s), e, want)
	}
}

// decoded asks that b be the bytes of s.
func decoded(t *testing.T, b string, s api.State) {
	t.Helper()
	if got, e := snap.Decode(b); e != api.OK || !same(got, s) {
		t.Fatalf("Decode of %.300q = %s, error %d, not %s", b, short(got), e, short(s))
	}
}

// listed is the items that some words say: a number, or ' and a text.
func listed(s string) []api.Item {
	l := []api.Item{}
	for _, w := range strings.Fields(s) {
		if rest, is := strings.CutPrefix(w, "'"); is {
			l = append(l, word(rest))
		} else {
			l = append(l, number(count(w)))
		}
	}
	return l
}

// What a state is made of: an object's last parts, where it has none of them; the
// sessions of five, and of three clients, which are nothing.
const (
	noMeter = " 0 0 0 0 "
	noRefs  = " 0" + noMeter
	noVals  = " 0" + noRefs
	no3     = " 0 0 0 0 0 0  0 0 0 0 0 0  0 0 0 0 0 0 "
	no5     = " 0 0 0 0 0 0  0 0 0 0 0 0 " + no3
)

// held asks of any bytes what the promise does.
func held(t *testing.T, b string) {
	t.Helper()
	l, e := wire.Decode(b)
	s, is := readable(l)
	switch {
	case e != api.OK:
		refused(t, b, e)
	case !is:
		refused(t, b, api.ErrForm)
	default:
		decoded(t, b, s)
	}
}

// known are items and the states whose items they are.
func known() map[string]api.State {
	ok := api.Reply{}
	return map[string]api.State{
		"0 0" + no5:                   {},
		"9223372036854775807 0" + no5: {Count: top},

		"7 1 'm 1 0 0 0" + noVals + no5:                         state(objects(aMap("m"))),
		"7 1 'm 1 0 0 2 'a 1 5 'bc 3 'xy" + noVals + no5:        state(objects(aMap("m", api.Pair{Key: "a", Val: numb(5)}, api.Pair{Key: "bc", Val: text("xy")}))),
		"7 1 'm 1 0 0 1 ' 2 4607182418800017408" + noVals + no5: state(objects(aMap("m", api.Pair{Key: "", Val: float(1)}))),
		"7 1 'q 2 8 0 0 0" + noRefs + no5:                       state(objects(aQueue("q", 8))),
		"7 1 'q 2 3 0 0 3 1 -1 3 'x 1 -1" + noRefs + no5:        state(objects(aQueue("q", 3, numb(-1), text("x"), numb(-1)))),
		"7 2 'a 1 0 0 0" + noVals + "'b 3 0 0 0" + noVals + no5: state(objects(aMap("a"), aLock("b"))),

		"7 1 'l 3 0 0 0 0 2 0 1 2 1 3 4" + noMeter + "1 1 2 1 0 0  1 3 4 0 0 0" + no3: state(objects(aLock("l", ref(0, 1, 2), ref(1, 3, 4))), opened(1, 2, ok), doing(3, 4)),
		"7 1 'g 4 3 7 0 0 1 0 1 2" + noMeter + "1 1 2 0 0 0  0 0 0 0 0 0" + no3:       state(objects(aGate("g", 3, 7, ref(0, 1, 2))), doing(1, 2)),

		"7 1 't 5 0 0 0 0 0 3 4607182418800017408 -4503599627370496 9221120237041090560" + no5: state(objects(aMeter("t", 3, 0x3ff0000000000000, less, nan))),
		"7 1 't 5 0 0 0 0 0 1 -9223372036854775808 -9223372036854775808 0" + no5:               state(objects(aMeter("t", 1, 1<<63, 1<<63, 0))),

		"7 0  0 1 0 1 9 1 5  1 2 0 1 0 0" + no3:                        state(nil, gone(1, 0, api.Reply{Err: api.ErrUnlike, Val: numb(5)}), opened(2, 0, ok)),
		"7 0  0 0 0 0 0 0  1 3 4 1 0 3 'xyz" + no3:                     state(nil, api.Session{}, opened(3, 4, valued(text("xyz")))),
		"7 0" + no3 + "0 0 0 0 0 0  0 6 9 1 14 2 -9223372036854775808": state(nil, api.Session{}, api.Session{}, api.Session{}, api.Session{}, gone(6, 9, api.Reply{Err: api.ErrSession, Val: bits(1 << 63)})),
	}
}

// TestKnown: P18.1 and P18.2, items that are written out.
func TestKnown(t *testing.T) {
	for words, s := range known() {
		b := bytesOf(t, listed(words))
		if got := encode(t, s); got != b {
			t.Errorf("Encode of %s = %q, not %s", short(s), got, words)
		}
		decoded(t, b, s)
	}
	if noughts(32) != encode(t, api.State{}) {
		t.Error("the state with nothing isn't 32 noughts")
	}
}

// P18.1

// TestEncode takes states of all sorts, with marks in the spare room of their lists,
// which must stay.
func TestEncode(t *testing.T) {
	for _, s := range states() {
		want := bytesOf(t, written(s))
		given := roomy(s)
		was := wide(given)
		if got := encode(t, given); got != want || got != encode(t, s) {
			t.Fatalf("Encode of %s = %q, not %q", short(s), got, want)
		}
		if !same(wide(given), was) {
			t.Fatalf("Encode changes what it is given: %s", short(s))
		}
	}
}

// TestEncodeOfAlike: lists that hold nothing may be nil or empty, with room or
// without any.
func TestEncodeOfAlike(t *testing.T) {
	for _, s := range states() {
		x := clone(s)
		for i, o := range x.Objects {
			x.Objects[i].Pairs = append(make([]api.Pair, 0, 20), o.Pairs...)
			x.Objects[i].Vals = append(make([]api.Value, 0, 20), o.Vals...)
			x.Objects[i].Refs = append(make([]api.Ref, 0, 20), o.Refs...)
		}
		x.Objects = append(make([]api.Object, 0, 20), x.Objects...)
		if encode(t, x) != encode(t, s) {
			t.Fatalf("Encode of %s hangs on the lists' room", short(s))
		}
	}
}

func TestEncodeOfWrong(t *testing.T) {
	for _, s := range states() {
		for _, x := range spoilt(s) {
			if b, e := snap.Encode(x); e != api.ErrArg || b != "" {
				t.Fatalf("Encode of %s = %q, error %d", short(x), b, e)
			}
		}
	}
}

// TestFullest: the bytes are never more than MaxBody. Of all kinds' parts a map's
// pairs have the most bytes, and there are as many of them as there may be.
func TestFullest(t *testing.T) {
	s := fullest()
	b := encode(t, s)
	object := 18 + 2 + 1 + 1 + 2 + 8*(66+2+66) + 1 + 1 + 4
	session := 2 + 9 + 9 + 2 + 2 + 2 + 66
	if want := 9 + 2 + 8*object + 5*session - 1; len(b) != want || want > api.MaxBody {
		t.Errorf("the fullest state has %d bytes, not %d", len(b), want)
	}
	decoded(t, b, s)
}

// P18.2

func TestDecode(t *testing.T) {
	for _, s := range states() {
		b := bytesOf(t, written(s))
		decoded(t, b, s)
		x, _ := snap.Decode(b)
		if !apart(x) {
			t.Fatalf("Decode hands out lists that share memory: %s", short(s))
		}
		decoded(t, b, s)
	}
}

// TestDecodeOfParts takes a state's bytes without the last ones, and with more of
// them behind.
func TestDecodeOfParts(t *testing.T) {
	for _, s := range built() {
		b := bytesOf(t, written(s))
		for i := range len(b) {
			refused(t, b[:i], api.ErrForm)
			if i%17 == 0 {
				held(t, b[i:])
			}
		}
		for _, more := range []string{"\x00", "\x10", "\x01\x02", "\x11\x01a", "\x09", "\x01", noughts(6), noughts(30)} {
			refused(t, b+more, api.ErrForm)
			held(t, b+more+b)
			held(t, more+b)
		}
		held(t, b+b)
	}
	refused(t, "", api.ErrForm)
}

func TestDecodeOfLong(t *testing.T) {
	for _, b := range []string{noughts(32), encode(t, fullest()), "\xff", ""} {
		for _, fill := range []string{"\x00", "\xff", "\x10"} {
			long := b + strings.Repeat(fill, api.MaxBody-len(b))
			refused(t, long, api.ErrForm)
			refused(t, long+fill, api.ErrLong)
			refused(t, long+long, api.ErrLong)
		}
	}
}

// TestDecodeOfWrong takes the items of states that may not be.
func TestDecodeOfWrong(t *testing.T) {
	for _, s := range states() {
		for _, x := range spoilt(s) {
			if b, e := wire.Encode(written(x)); e == api.OK {
				refused(t, b, api.ErrForm)
			}
		}
	}
}

// near are the items that may stand in place of x, by mistake.
func near(x api.Item) []api.Item {
	l := []api.Item{word(""), word("a"), word(long('t', 17)), word(long('t', 65)), word(x.S + "\x00")}
	for _, n := range []int{0, 1, 2, 3, 4, 5, 8, 9, 19, 255, 256, 1 << 32, top, math.MinInt, x.N - 1, x.N + 1, -x.N, ^x.N, -1} {
		l = append(l, number(n))
	}
	return l
}

// TestDecodeOfAny takes states' items with one of them another one, gone, there
// twice, or at its neighbour's place: most are no state's any more, some another
// one's.
func TestDecodeOfAny(t *testing.T) {
	met := map[bool]int{}
	ask := func(l ...[]api.Item) {
		all := slices.Concat(l...)
		b := bytesOf(t, all)
		s, is := readable(all)
		met[is]++
		if !is {
			refused(t, b, api.ErrForm)
			return
		}
		decoded(t, b, s)
		if encode(t, s) != b {
			t.Fatalf("%s is %s, which has other bytes", short(all), short(s))
		}
	}
	for _, s := range append(built(), rowsEnds()...) {
		l := written(s)
		if len(l) > 400 {
			continue // the fullest one
		}
		for i, x := range l {
			for _, y := range near(x) {
				ask(l[:i], []api.Item{y}, l[i+1:])
			}
			ask(l[:i], l[i+1:])
			ask(l[:i+1], l[i:])
			if i > 0 {
				ask(l[:i-1], []api.Item{x, l[i-1]}, l[i+1:])
			}
		}
	}
	if met[true] < 1000 || met[false] < 1000 {
		t.Errorf("%v", met)
	}
}

// TestDecodeOfTurned takes states' bytes with each one turned in many ways.
func TestDecodeOfTurned(t *testing.T) {
	for _, s := range []api.State{{}, waiting(), ofEachKind()} {
		b := []byte(encode(t, s))
		for i, was := range b {
			for turn := 1; turn < 256; turn += 1 + i%3 {
				b[i] = was ^ byte(turn)
				held(t, string(b))
			}
			b[i] = was
		}
	}
}

// TestFlags: a flag is 1 or 0, all else is none.
func TestFlags(t *testing.T) {
	own := listed("1 1 0 1 0 0")
	for _, at := range []int{0, 3} {
		for _, n := range []int{2, 3, -1, -2, 255, 256, 257, 1 << 32, 1<<32 + 1, top, math.MinInt} {
			l := slices.Concat(listed("7 0"), own, listed(no5)[6:])
			decoded(t, bytesOf(t, l), state(nil, opened(1, 0, api.Reply{})))
			l[2+at] = number(n)
			refused(t, bytesOf(t, l), api.ErrForm)
		}
	}
}

// TestCounts: what a list is said to have must be there, and no more; a list has no
// fewer parts than none.
func TestCounts(t *testing.T) {
	for _, n := range []int{-1, -2, math.MinInt, 1, 2, 9, 1 << 16, 1 << 31, 1 << 32, 1 << 62, top} {
		said := fmt.Sprint(n)
		for _, words := range []string{
			"0 " + said + no5,
			"7 1 'm 1 0 0 " + said + noVals + no5,
			"7 1 'm 1 0 0 0 " + said + noRefs + no5,
			"7 1 'm 1 0 0 0 0 " + said + noMeter + no5,
		} {
			refused(t, bytesOf(t, listed(words)), api.ErrForm)
		}
		big := slices.Concat(listed("0 "+said), slices.Repeat(listed("'m 1 0 0 0"+noVals), 600))
		refused(t, bytesOf(t, big), api.ErrForm)
	}
}

// P18.3

// TestThereAndBack also tells that no two states have the same bytes.
func TestThereAndBack(t *testing.T) {
	seen := map[string]api.State{}
	for _, s := range states() {
		b := encode(t, s)
		if was, is := seen[b]; is && !same(was, s) {
			t.Fatalf("%s and %s have the same bytes", short(was), short(s))
		}
		seen[b] = s
		x, e := snap.Decode(b)
		if e != api.OK || !same(x, s) || !apply.Right(x) || encode(t, x) != b {
			t.Fatalf("%s comes back as %s", short(s), short(x))
		}
	}
}

func Example() {
	s := api.State{}
	for _, line := range []string{"0.1.0 open", "0.1.1 make l 3 0", "0.1.2 lock l", "1.1.0 open", "1.1.1 lock l"} {
		s, _ = apply.Apply(s, event(line))
	}
	b, e := snap.Encode(s)
	fmt.Println(len(b), e)
	t, e := snap.Decode(b)
	fmt.Println(t.Count, t.Objects[0].Name, t.Objects[0].Refs, e)
	t, outs := apply.Apply(t, event("0.1.0 expire"))
	fmt.Println(outs[0].Ref, outs[0].Reply.Err)
	_, e = snap.Decode(b[:len(b)-1])
	fmt.Println(e)
	t.Count = -1
	_, e = snap.Encode(t)
	fmt.Println(e)
	// Output:
	// 67 0
	// 5 l [{0 1 2} {1 1 1}] 0
	// {1 1 1} 0
	// 3
	// 1
}
