package store_test

import (
	"fmt"
	"math"
	"slices"
	"strconv"
	"testing"

	"phalanx/api"
	"phalanx/store"
)

// call is a call of the store over some objects, what it should answer, and its
// name.
type call struct {
	does func([]api.Object) answer
	want answer
	name func() string
}

// asDo is the command of r, asDrop the end of r's session, over l.
func asDo(l []api.Object, r api.Ref, c api.Cmd) call {
	return call{
		func(l []api.Object) answer { return theDo(l, r, c) },
		does(l, r, c),
		func() string { return "Do of " + short(r) + short(c) },
	}
}

func asDrop(l []api.Object, r api.Ref) call {
	return call{
		func(l []api.Object) answer { return theDrop(l, r) },
		drops(l, r),
		func() string { return "Drop of " + short(r) },
	}
}

func theDo(l []api.Object, r api.Ref, c api.Cmd) answer {
	m, reply, later, outs := store.Do(l, r, c)
	return answer{m, reply, later, outs}
}

func theDrop(l []api.Object, r api.Ref) answer {
	m, outs := store.Drop(l, r)
	return answer{l: m, outs: outs}
}

// short is x in few words, all of them to be read.
func short(x any) string { return fmt.Sprintf("%.600q", fmt.Sprint(x)) }

// The marks that stand in spare room.
var (
	markedPair   = pair("marked", numb(77))
	markedVal    = numb(77)
	markedRef    = ref(77, 77, 77)
	markedObject = api.Object{Name: "marked", Kind: 77}
)

// roomy is l, with two marks in the spare room behind each of its lists.
func roomy(l []api.Object) []api.Object {
	own := clone(l)
	for i, o := range own {
		own[i].Pairs = slices.Concat(o.Pairs, pairs(markedPair, markedPair))[:len(o.Pairs)]
		own[i].Vals = slices.Concat(o.Vals, vals(markedVal, markedVal))[:len(o.Vals)]
		own[i].Refs = slices.Concat(o.Refs, refs(markedRef, markedRef))[:len(o.Refs)]
	}
	return slices.Concat(own, objects(markedObject, markedObject))[:len(l)]
}

// stays tells whether what roomy gave is still l, and its spare room as it was.
func stays(given, l []api.Object) bool {
	for i, o := range given {
		if i >= len(l) || !slices.Equal(o.Pairs[:len(l[i].Pairs)+2], slices.Concat(l[i].Pairs, pairs(markedPair, markedPair))) ||
			!slices.Equal(o.Vals[:len(l[i].Vals)+2], slices.Concat(l[i].Vals, vals(markedVal, markedVal))) ||
			!slices.Equal(o.Refs[:len(l[i].Refs)+2], slices.Concat(l[i].Refs, refs(markedRef, markedRef))) {
			return false
		}
	}
	return sameObjects(given[:len(l)+2], slices.Concat(l, objects(markedObject, markedObject)))
}

// fill puts x all over l, its spare room too, and gives whether it is there still.
func fill[T comparable](l []T, x T) func() bool {
	all := l[:cap(l)]
	for i := range all {
		all[i] = x
	}
	return func() bool {
		return !slices.ContainsFunc(all, func(y T) bool { return y != x })
	}
}

// apart puts something else on each list of an answer, and tells whether all of
// it stays: no two lists share memory.
func apart(x answer) bool {
	still := []func() bool{fill(x.outs, api.Out{Ref: markedRef})}
	for i, o := range x.l {
		still = append(still, fill(o.Pairs, pair(strconv.Itoa(i), numb(i))), fill(o.Vals, numb(i)), fill(o.Refs, ref(i, i, i)))
	}
	for i := range x.l[:cap(x.l)] {
		x.l[:cap(x.l)][i] = markedObject
	}
	return !slices.ContainsFunc(still, func(f func() bool) bool { return !f() })
}

// asks holds what the call answers against what it should, with and without spare
// room, and asks it to leave what it is given as it is, spare room too, to hand out
// no memory of that, nor of another answer or list, and to keep none.
func asks(t *testing.T, x call, l []api.Object) {
	t.Helper()
	if got := x.does(clone(l)); !got.is(x.want) {
		t.Fatalf("%s over %s = %s, not %s", x.name(), short(l), short(got), short(x.want))
	}
	given := roomy(l)
	got, other := x.does(given), x.does(given)
	if !apart(other) {
		t.Fatalf("%s hands out lists that share memory: over %s", x.name(), short(l))
	}
	if !stays(given, l) {
		t.Fatalf("%s changes what it is given, or hands out memory of it: %s", x.name(), short(l))
	}
	apart(answer{l: given})
	if !got.is(x.want) {
		t.Fatalf("%s over %s with spare room, or when that changes: %s, not %s", x.name(), short(l), short(got), short(x.want))
	}
	if !store.Reply(got.reply) || store.Right(l) && !store.Right(got.l) {
		t.Fatalf("%s over %s = %s, which may not be", x.name(), short(l), short(got))
	}
}

// others holds the objects that a command doesn't name against what they were.
func others(t *testing.T, l []api.Object, r api.Ref, c api.Cmd) {
	t.Helper()
	isNamed := func(o api.Object) bool { return o.Name == c.Name }
	m, _, _, _ := store.Do(l, r, c)
	if !sameObjects(slices.DeleteFunc(m, isNamed), slices.DeleteFunc(clone(l), isNamed)) {
		t.Fatalf("Do of %v over %s changes another object", c, short(l))
	}
}

// P15.1

func TestRightOfAny(t *testing.T) {
	for i, all := range [][][]api.Object{lists(), wrong()} {
		for _, l := range all {
			given := roomy(l)
			if got := store.Right(given); got != (i == 0) || got != right(l) {
				t.Fatalf("Right of %s = %v", short(l), got)
			}
			if !stays(given, l) {
				t.Fatalf("Right changes %s", short(l))
			}
		}
	}
}

// TestRightOfNames takes names of all lengths and bytes, and each two of a row
// that rises.
func TestRightOfNames(t *testing.T) {
	for n := range 40 {
		for _, o := range good() {
			if got := store.Right(objects(named(long(n), o))); got != (n > 0 && n < 17) {
				t.Fatalf("Right of a name of %d bytes = %v", n, got)
			}
		}
	}
	for i := range 256 {
		if !store.Right(objects(aMap(string([]byte{byte(i)})))) {
			t.Fatalf("a name may not be the byte %d", i)
		}
	}
	rising := []string{"\x00", "\x00\x00", "A", "a", "a\x00", "aa", "ab", "a\xff", "b", "z", "\x7f", "\x80", "é", "\xff", "\xff\x00", "\xff\xff"}
	for i, x := range rising {
		for j, y := range rising {
			for _, o := range good() {
				if got := store.Right(objects(named(x, o), named(y, aLock("")))); got != (i < j) {
					t.Fatalf("Right of the names %q, %q = %v", x, y, got)
				}
			}
		}
	}
}

// TestRightOfMany takes as many objects as there may be, and more, and each two of
// them the other way round.
func TestRightOfMany(t *testing.T) {
	for n := range 20 {
		l := objects()
		for i := range n {
			l = append(l, named(string(rune('A'+i)), good()[i]))
		}
		if got := store.Right(l); got != (n < 9) {
			t.Fatalf("Right of %d objects = %v", n, got)
		}
		for i := range min(n, 8) {
			for j := range i {
				other := clone(l[:min(n, 8)])
				other[i], other[j] = other[j], other[i]
				if store.Right(other) {
					t.Fatalf("Right of %s", short(other))
				}
				other[i].Name = other[j].Name
				if store.Right(other) {
					t.Fatalf("Right of %s", short(other))
				}
			}
		}
	}
}

func TestReplyOfAny(t *testing.T) {
	errors := []api.Errno{math.MinInt, -256, -2, -1, 19, 20, 255, 256, 1 << 32, math.MaxInt}
	for i := range api.Errno(19) {
		errors = append(errors, i)
	}
	may := vals(api.Value{}, numb(0), numb(math.MinInt), numb(math.MaxInt), float(0), bits(nan), float(-1), text(""), text("\x00"), text(long(64)))
	not := vals(text(long(65)), bits(odd), api.Value{Kind: 4}, api.Value{Kind: -1}, api.Value{N: 1}, api.Value{S: "a"}, api.Value{F: 1},
		api.Value{Kind: api.VInt, F: 1}, api.Value{Kind: api.VInt, S: "a"}, api.Value{Kind: api.VFloat, N: 1}, api.Value{Kind: api.VText, N: 1})
	for _, x := range errors {
		for i, v := range slices.Concat(may, not) {
			want := x >= api.OK && x <= api.ErrWait && i < len(may)
			if got := store.Reply(api.Reply{Err: x, Val: v}); got != want || got != rightReply(api.Reply{Err: x, Val: v}) {
				t.Errorf("Reply of %d, %s = %v", x, short(v), got)
			}
		}
	}
}

// P15.2

// TestDoOfAny does each command to each kind of object, in its places among others.
func TestDoOfAny(t *testing.T) {
	for i, l := range lists() {
		for j, c := range of("m") {
			for k, r := range askers() {
				// The requests count where they are kept; elsewhere a few do.
				if c.Kind >= api.CLock && c.Kind <= api.CWait || (i+j+k)%4 == 0 {
					asks(t, asDo(l, r, c), l)
				}
			}
			others(t, l, b, c)
		}
	}
}

// TestDoOfOtherNames does commands to names that aren't there, or are another's.
func TestDoOfOtherNames(t *testing.T) {
	for i, l := range lists() {
		for j, name := range []string{"\x00", "a", "e", "l", "l\xff", "m\x00", "ma", "mm", "o", "q", "r", "\xff", long(16)} {
			for k, c := range of(name) {
				if (i+j+k)%4 == 0 {
					asks(t, asDo(l, c1(k), c), l)
				}
			}
		}
	}
}

// TestDoOfWrong does commands that may not be, and all of them by requests, or
// over objects, that may not be.
func TestDoOfWrong(t *testing.T) {
	for i, l := range lists() {
		for j, c := range slices.Concat(of("m"), ill("m"), ill("z")) {
			r := slices.Concat(askers()[:5], bad())[(i+j)%(5+len(bad()))]
			if (i+j)%3 == 0 {
				asks(t, asDo(l, r, c), l)
			}
		}
	}
	for i, l := range wrong() {
		l = l[:min(len(l), 40)]
		for j, c := range slices.Concat(of("m"), of("z"), ill("m")) {
			if r := slices.Concat(askers(), bad())[(i+j)%26]; (i+j)%19 == 0 {
				asks(t, asDo(l, r, c), l)
			}
		}
	}
}

// TestDoOfAnyKind takes each kind of command with each way to fill its fields.
func TestDoOfAnyKind(t *testing.T) {
	l := around(aMap("m", full(3)...))[3]
	for kind := -2; kind < 22; kind++ {
		for row := range 1 << 6 {
			c := api.Cmd{Kind: kind}
			for i, set := range []func(){
				func() { c.Name = "m" },
				func() { c.Key = "a" },
				func() { c.Val = float(1) },
				func() { c.Old = numb(0) },
				func() { c.N = 2 },
				func() { c.M = 1 },
			} {
				if row>>i&1 == 1 {
					set()
				}
			}
			for _, l := range [][]api.Object{nil, l, l[:6], l[4:5], objects(aMeter("m", 1, 1, 1, 1))} {
				asks(t, asDo(l, c1(kind), c), l)
			}
		}
	}
}

// c1 is one of the requests that may be.
func c1(n int) api.Ref { return askers()[(n+2)%5] }

// P15.3

func TestDropOfAny(t *testing.T) {
	sessions := slices.Concat(askers(), bad(), refs(ref(0, 1, -9), ref(1, 1, math.MinInt), ref(2, 2, 2), ref(5, 9, 9), ref(-5, 1, 1)))
	for _, l := range lists() {
		for _, r := range sessions {
			asks(t, asDrop(l, r), l)
		}
	}
	for i, l := range wrong() {
		l = l[:min(len(l), 40)]
		for j, r := range sessions {
			if (i+j)%5 == 0 {
				asks(t, asDrop(l, r), l)
			}
		}
	}
}
