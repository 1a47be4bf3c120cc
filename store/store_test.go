package store_test

import (
	"fmt"
	"math"
	"testing"

	"phalanx/api"
	"phalanx/store"
)

// What is known of single calls, by the chapter's words and examples.

// known is a command of a request, over some objects, and what it answers.
type known struct {
	l    []api.Object
	r    api.Ref
	c    api.Cmd
	want answer
}

// same holds Do, and the words of the chapter, against what is known.
func same(t *testing.T, all []known) {
	t.Helper()
	for _, k := range all {
		if got := does(k.l, k.r, k.c); !got.is(k.want) {
			t.Errorf("the words have %s of %v, %s over %s, not %s", short(got), k.r, short(k.c), short(k.l), short(k.want))
		}
		asks(t, asDo(k.l, k.r, k.c), k.l)
	}
}

// just is a command that has a name alone.
func just(kind int, name string) api.Cmd { return api.Cmd{Kind: kind, Name: name} }

func makes(name string, kind, m int) api.Cmd {
	return api.Cmd{Kind: api.CMake, Name: name, N: kind, M: m}
}

func puts(name, key string, v api.Value) api.Cmd {
	return api.Cmd{Kind: api.CPut, Name: name, Key: key, Val: v}
}

func swaps(name, key string, old, v api.Value) api.Cmd {
	return api.Cmd{Kind: api.CSwap, Name: name, Key: key, Old: old, Val: v}
}

func gets(name, key string) api.Cmd           { return api.Cmd{Kind: api.CGet, Name: name, Key: key} }
func cuts(name, key string) api.Cmd           { return api.Cmd{Kind: api.CCut, Name: name, Key: key} }
func pushes(name string, v api.Value) api.Cmd { return api.Cmd{Kind: api.CPush, Name: name, Val: v} }
func adds(name string, v api.Value) api.Cmd   { return api.Cmd{Kind: api.CAdd, Name: name, Val: v} }
func reads(name string, what int) api.Cmd     { return api.Cmd{Kind: api.CRead, Name: name, N: what} }

// refused are l as it was, and the error.
func refused(l []api.Object, e api.Errno) answer { return failed(e).on(l) }

// done are l behind a command whose reply is OK, without a value.
func done(l ...api.Object) answer { return answer{l: l} }

// TestRightKnown takes what may and what may not be, as samples list it, alone.
func TestRightKnown(t *testing.T) {
	for _, o := range good() {
		if !right(objects(o)) || !store.Right(objects(o)) {
			t.Errorf("%s may not be", short(o))
		}
	}
	for _, o := range beyond() {
		if right(objects(o)) || store.Right(objects(o)) {
			t.Errorf("%s may be", short(o))
		}
	}
	if !store.Right(nil) || !store.Right(objects()) {
		t.Error("no objects may not be")
	}
}

func TestMakeAndDropKnown(t *testing.T) {
	top := math.MaxInt
	eight := objects(aMap("b"), aMap("c"), aMap("d"), aMap("e"), aMap("f"), aMap("g"), aMap("h"), aLock("i", a))
	ab, held := objects(aMap("a"), aMap("b")), objects(aLock("m", a))
	same(t, []known{
		{nil, a, makes("q", api.OQueue, 1), done(aQueue("q", 1))},
		{nil, a, makes("q", api.OQueue, 8), done(aQueue("q", 8))},
		{nil, a, makes("m", api.OMap, 0), done(aMap("m"))},
		{nil, a, makes("l", api.OLock, 0), done(aLock("l"))},
		{nil, a, makes("g", api.OGate, 5), done(aGate("g", 5, 0))},
		{nil, a, makes("t", api.OMeter, 0), done(aMeter("t", 0, 0, 0, 0))},
		{nil, a, makes(long(16), api.OMap, 0), done(aMap(long(16)))},
		{nil, a, makes("\xff\x00", api.OMap, 0), done(aMap("\xff\x00"))},
		{nil, a, makes(long(17), api.OMap, 0), refused(nil, api.ErrLong)},
		{nil, a, makes("", api.OMap, 0), refused(nil, api.ErrArg)},
		{nil, a, makes("q", api.OQueue, 9), refused(nil, api.ErrArg)},
		{nil, a, makes("q", api.OQueue, 0), refused(nil, api.ErrArg)},
		{nil, a, makes("g", api.OGate, 6), refused(nil, api.ErrArg)},
		{nil, a, makes("m", api.OMap, 1), refused(nil, api.ErrArg)},
		{nil, a, makes("m", 6, 0), refused(nil, api.ErrArg)},
		{nil, a, makes("m", 0, 0), refused(nil, api.ErrArg)},
		{ab, a, makes("aa", api.OLock, 0), done(aMap("a"), aLock("aa"), aMap("b"))},
		{ab, a, makes("A", api.OLock, 0), done(aLock("A"), aMap("a"), aMap("b"))},
		{ab, a, makes("c", api.OLock, 0), done(aMap("a"), aMap("b"), aLock("c"))},
		{ab, a, makes("a", api.OMap, 0), refused(ab, api.ErrTwice)},
		{ab, a, makes("b", api.OGate, 1), refused(ab, api.ErrTwice)},
		{ab, ref(0, 0, 1), makes("b", api.OGate, 1), refused(ab, api.ErrArg)},
		{ab, a, makes("b", api.OGate, 0), refused(ab, api.ErrArg)},
		{eight, a, makes("a", api.OMap, 0), refused(eight, api.ErrFull)},
		{eight, a, makes("z", api.OMap, 0), refused(eight, api.ErrFull)},
		{eight, a, makes("i", api.OMap, 0), refused(eight, api.ErrTwice)},
		{eight, a, makes(long(17), api.OMap, 0), refused(eight, api.ErrLong)},
		{eight[:7], a, makes("i", api.OMap, 0), done(append(clone(eight[:7]), aMap("i"))...)},
		{eight, b, just(api.CDrop, "b"), done(eight[1:]...)},
		{eight, b, just(api.CDrop, "i"), refused(eight, api.ErrBusy)},
		{eight, b, just(api.CDrop, "a"), refused(eight, api.ErrNone)},
		{held, a, just(api.CDrop, "m"), refused(held, api.ErrBusy)},
		{objects(aLock("m")), a, just(api.CDrop, "m"), done()},
		{objects(aGate("m", 2, 0, a)), a, just(api.CDrop, "m"), refused(objects(aGate("m", 2, 0, a)), api.ErrBusy)},
		{objects(aGate("m", 2, top)), a, just(api.CDrop, "m"), done()},
		{objects(aMap("m", full(8)...)), a, just(api.CDrop, "m"), done()},
		{objects(aQueue("m", 1, numb(1))), a, just(api.CDrop, "m"), done()},
		{objects(aMeter("m", top, 1, 1, 1)), a, just(api.CDrop, "m"), done()},
		{nil, a, just(api.CDrop, "m"), refused(nil, api.ErrNone)},
		{nil, a, just(api.CDrop, ""), refused(nil, api.ErrArg)},
	})
}

func TestMapAndQueueKnown(t *testing.T) {
	none := api.Value{}
	m := objects(aMap("m", pair("a", numb(2))))
	all := objects(aMap("m", full(8)...))
	q, two := objects(aQueue("m", 1)), objects(aQueue("m", 2, numb(5), text("x")))
	same(t, []known{
		{m, a, gets("m", "a"), valued(numb(2)).on(m)},
		{m, a, gets("m", "b"), refused(m, api.ErrNone)},
		{m, a, gets("m", ""), refused(m, api.ErrNone)},
		{m, a, gets("m", long(65)), refused(m, api.ErrLong)},
		{m, a, gets("n", "a"), refused(m, api.ErrNone)},
		{q, a, gets("m", "a"), refused(q, api.ErrKind)},
		{m, a, puts("m", "b", float(1)), done(aMap("m", pair("a", numb(2)), pair("b", float(1))))},
		{m, a, puts("m", "", text("")), done(aMap("m", pair("", text("")), pair("a", numb(2))))},
		{m, a, puts("m", "a", text("x")), done(aMap("m", pair("a", text("x"))))},
		{m, a, puts("m", "a", none), refused(m, api.ErrArg)},
		{m, a, puts("m", "a", text(long(65))), refused(m, api.ErrLong)},
		{all, a, puts("m", "i", numb(1)), refused(all, api.ErrFull)},
		{all, a, puts("m", "h", numb(7)), done(all...)},
		{m, a, cuts("m", "a"), valued(numb(2)).on(objects(aMap("m")))},
		{m, a, cuts("m", "b"), refused(m, api.ErrNone)},
		{m, a, swaps("m", "a", numb(2), numb(3)), done(aMap("m", pair("a", numb(3))))},
		{m, a, swaps("m", "a", numb(2), none), done(aMap("m"))},
		{m, a, swaps("m", "b", none, numb(3)), done(aMap("m", pair("a", numb(2)), pair("b", numb(3))))},
		{m, a, swaps("m", "b", none, none), done(m...)},
		{m, a, swaps("m", "a", none, numb(1)), answer{l: m, reply: api.Reply{Err: api.ErrUnlike, Val: numb(2)}}},
		{m, a, swaps("m", "a", float(2), numb(1)), answer{l: m, reply: api.Reply{Err: api.ErrUnlike, Val: numb(2)}}},
		{m, a, swaps("m", "b", numb(2), numb(1)), refused(m, api.ErrUnlike)},
		{all, a, swaps("m", "i", none, numb(1)), refused(all, api.ErrFull)},
		{q, a, pushes("m", numb(5)), done(aQueue("m", 1, numb(5)))},
		{two, a, pushes("m", numb(6)), refused(two, api.ErrFull)},
		{two, a, pushes("m", none), refused(two, api.ErrArg)},
		{two, a, just(api.CPop, "m"), valued(numb(5)).on(objects(aQueue("m", 2, text("x"))))},
		{q, a, just(api.CPop, "m"), refused(q, api.ErrEmpty)},
		{m, a, just(api.CPop, "m"), refused(m, api.ErrKind)},
		{m, a, pushes("m", numb(1)), refused(m, api.ErrKind)},
		{m, a, pushes("n", numb(1)), refused(m, api.ErrNone)},
		{q, a, swaps("m", "a", none, none), refused(q, api.ErrKind)},
	})
}

func TestLockAndGateKnown(t *testing.T) {
	top := math.MaxInt
	free, held, waits := objects(aLock("m")), objects(aLock("m", a)), objects(aLock("m", a, b, c))
	g, one := objects(aGate("m", 2, 7)), objects(aGate("m", 2, 7, a))
	last, end := objects(aGate("m", 2, top-1, a)), objects(aGate("m", 2, top, a))
	roundTo := func(r api.Ref, round int) api.Out { return api.Out{Ref: r, Reply: api.Reply{Val: numb(round)}} }
	same(t, []known{
		{free, a, just(api.CLock, "m"), done(held...)},
		{free, ref(4, top, top), just(api.CLock, "m"), done(aLock("m", ref(4, top, top)))},
		{held, b, just(api.CLock, "m"), later().on(objects(aLock("m", a, b)))},
		{waits, e, just(api.CLock, "m"), later().on(objects(aLock("m", a, b, c, e)))},
		{held, a, just(api.CLock, "m"), refused(held, api.ErrHeld)},
		{waits, ref(2, 3, 0), just(api.CLock, "m"), refused(waits, api.ErrHeld)},
		{waits, a, just(api.CFree, "m"), told(okTo(b)).on(objects(aLock("m", b, c)))},
		{waits, ref(0, 1, 9), just(api.CFree, "m"), told(okTo(b)).on(objects(aLock("m", b, c)))},
		{waits, ref(0, 2, 1), just(api.CFree, "m"), refused(waits, api.ErrOwner)},
		{waits, b, just(api.CFree, "m"), refused(waits, api.ErrOwner)},
		{held, a, just(api.CFree, "m"), done(free...)},
		{free, a, just(api.CFree, "m"), refused(free, api.ErrOwner)},
		{held, ref(0, 1, -1), just(api.CFree, "m"), refused(held, api.ErrArg)},
		{g, a, just(api.CLock, "m"), refused(g, api.ErrKind)},
		{one, a, just(api.CFree, "m"), refused(one, api.ErrKind)},
		{held, a, just(api.CWait, "m"), refused(held, api.ErrKind)},
		{g, a, just(api.CWait, "m"), later().on(one)},
		{one, a, just(api.CWait, "m"), refused(one, api.ErrHeld)},
		{one, ref(0, 5, 5), just(api.CWait, "m"), refused(one, api.ErrHeld)},
		{one, b, just(api.CWait, "m"), answer{objects(aGate("m", 2, 8)), api.Reply{Val: numb(7)}, false, []api.Out{roundTo(a, 7)}}},
		{last, b, just(api.CWait, "m"), answer{objects(aGate("m", 2, top)), api.Reply{Val: numb(top - 1)}, false, []api.Out{roundTo(a, top-1)}}},
		{end, b, just(api.CWait, "m"), refused(end, api.ErrFull)},
		{end, a, just(api.CWait, "m"), refused(end, api.ErrHeld)},
		{objects(aGate("m", 2, top)), b, just(api.CWait, "m"), later().on(objects(aGate("m", 2, top, b)))},
		{objects(aGate("m", 1, 0)), b, just(api.CWait, "m"), valued(numb(0)).on(objects(aGate("m", 1, 1)))},
		{objects(aGate("m", 1, top)), b, just(api.CWait, "m"), refused(objects(aGate("m", 1, top)), api.ErrFull)},
		{objects(aGate("m", 4, 1, e, a, d)), b, just(api.CWait, "m"),
			answer{objects(aGate("m", 4, 2)), api.Reply{Val: numb(1)}, false, []api.Out{roundTo(e, 1), roundTo(a, 1), roundTo(d, 1)}}},
	})
}

func TestMeterAndSizeKnown(t *testing.T) {
	top := math.MaxInt
	zero, two, end := objects(aMeter("m", 0, 0, 0, 0)), objects(aMeter("m", 2, 3, 1, 2)), objects(aMeter("m", top, 3, 1, 2))
	same(t, []known{
		{zero, a, adds("m", float(2.5)), done(aMeter("m", 1, 2.5, 2.5, 2.5))},
		{two, a, adds("m", float(-4)), done(aMeter("m", 3, -1, -4, 2))},
		{two, a, adds("m", bits(nan)), done(aMeter("m", 3, math.Float64frombits(nan), 1, math.Float64frombits(nan)))},
		{end, a, adds("m", float(-4)), refused(end, api.ErrFull)},
		{two, a, adds("m", numb(1)), refused(two, api.ErrKind)},
		{two, a, adds("n", numb(1)), refused(two, api.ErrKind)},
		{two, a, adds("n", float(1)), refused(two, api.ErrNone)},
		{two, a, reads("m", 0), valued(numb(2)).on(two)},
		{two, a, reads("m", 1), valued(float(3)).on(two)},
		{two, a, reads("m", 2), valued(float(1)).on(two)},
		{two, a, reads("m", 3), valued(float(2)).on(two)},
		{two, a, reads("m", 4), refused(two, api.ErrArg)},
		{zero, a, reads("m", 0), valued(numb(0)).on(zero)},
		{zero, a, reads("m", 1), refused(zero, api.ErrEmpty)},
		{zero, a, gets("m", "a"), refused(zero, api.ErrKind)},
		{objects(aMap("m")), a, reads("m", 0), refused(objects(aMap("m")), api.ErrKind)},
		{zero, a, just(api.CSize, "m"), valued(numb(0)).on(zero)},
		{end, a, just(api.CSize, "m"), valued(numb(top)).on(end)},
		{objects(aMap("m", full(8)...)), a, just(api.CSize, "m"), valued(numb(8)).on(objects(aMap("m", full(8)...)))},
		{objects(aQueue("m", 8, numb(1), numb(1))), a, just(api.CSize, "m"), valued(numb(2)).on(objects(aQueue("m", 8, numb(1), numb(1))))},
		{objects(aLock("m", a, b, c)), a, just(api.CSize, "m"), valued(numb(3)).on(objects(aLock("m", a, b, c)))},
		{objects(aGate("m", 5, 9, b)), a, just(api.CSize, "m"), valued(numb(1)).on(objects(aGate("m", 5, 9, b)))},
		{two, a, just(api.CSize, "n"), refused(two, api.ErrNone)},
	})
}

// TestFirstErrorKnown has several errors apply at once.
func TestFirstErrorKnown(t *testing.T) {
	m, turned := objects(aMap("m")), objects(aMap("m"), aMap("a"))
	same(t, []known{
		{m, a, api.Cmd{Kind: api.COpen}, refused(m, api.ErrArg)},
		{m, a, api.Cmd{Kind: api.CClose}, refused(m, api.ErrArg)},
		{m, a, api.Cmd{Kind: api.CTouch}, refused(m, api.ErrArg)},
		{m, a, api.Cmd{Kind: api.CExpire}, refused(m, api.ErrArg)},
		{m, a, api.Cmd{}, refused(m, api.ErrArg)},
		{m, a, just(19, long(17)), refused(m, api.ErrArg)},
		{turned, a, gets(long(17), "a"), refused(turned, api.ErrArg)},
		{turned, a, gets("n", "a"), refused(turned, api.ErrArg)},
		{m, api.Ref{}, gets(long(17), "a"), refused(m, api.ErrArg)},
		{m, ref(5, 1, 1), adds("m", numb(1)), refused(m, api.ErrArg)},
		{m, a, gets(long(17), "a"), refused(m, api.ErrLong)},
		{m, a, adds(long(17), numb(1)), refused(m, api.ErrLong)},
		{m, a, adds("m", numb(1)), refused(m, api.ErrKind)},
		{m, a, reads("m", 4), refused(m, api.ErrArg)},
		{m, a, just(api.CDrop, "n"), refused(m, api.ErrNone)},
	})
}

// TestDropKnown takes r's session from locks and gates.
func TestDropKnown(t *testing.T) {
	all := objects(aLock("a", a, b), aGate("b", 3, 5, b, a), aMap("c", full(2)...), aLock("d", b, a), aLock("e", a, c), aLock("f", a), aLock("g"))
	two := objects(aLock("a", ref(0, 2, 4), b), aGate("b", 2, 0, ref(0, 2, 1)))
	wrong := objects(aLock("b", a, b), aLock("a", a))
	for _, k := range []struct {
		l    []api.Object
		r    api.Ref
		want answer
	}{
		{all, a, told(okTo(b), okTo(c)).on(objects(aLock("a", b), aGate("b", 3, 5, b), aMap("c", full(2)...), aLock("d", b), aLock("e", c), aLock("f"), aLock("g")))},
		{all, ref(0, 1, 0), told(okTo(b), okTo(c)).on(objects(aLock("a", b), aGate("b", 3, 5, b), aMap("c", full(2)...), aLock("d", b), aLock("e", c), aLock("f"), aLock("g")))},
		{all, b, told(okTo(a)).on(objects(aLock("a", a), aGate("b", 3, 5, a), aMap("c", full(2)...), aLock("d", a), aLock("e", a, c), aLock("f", a), aLock("g")))},
		{all, d, done(all...)},
		{all, ref(0, 2, 1), done(all...)},
		{two, a, done(two...)},
		{two, ref(0, 2, 9), told(okTo(b)).on(objects(aLock("a", b), aGate("b", 2, 0)))},
		{wrong, a, done(wrong...)},
		{nil, a, done()},
	} {
		if got := drops(k.l, k.r); !got.is(k.want) {
			t.Errorf("the words have %s of %v over %s, not %s", short(got), k.r, short(k.l), short(k.want))
		}
		asks(t, asDrop(k.l, k.r), k.l)
	}
}

func TestReplyKnown(t *testing.T) {
	for _, k := range []struct {
		r  api.Reply
		is bool
	}{
		{api.Reply{}, true},
		{api.Reply{Err: 18}, true},
		{api.Reply{Err: api.ErrUnlike, Val: numb(2)}, true},
		{api.Reply{Err: api.ErrFull, Val: text(long(64))}, true},
		{api.Reply{Err: 19}, false},
		{api.Reply{Err: -1}, false},
		{api.Reply{Val: text(long(65))}, false},
		{api.Reply{Val: api.Value{N: 1}}, false},
		{api.Reply{Err: 19, Val: numb(1)}, false},
	} {
		if got := store.Reply(k.r); got != k.is {
			t.Errorf("Reply of %s = %v", short(k.r), got)
		}
	}
}

// tells prints what a command over l answers but the objects, and gives these.
func tells(l []api.Object, r api.Ref, c api.Cmd) []api.Object {
	m, reply, later, outs := store.Do(l, r, c)
	fmt.Println(reply.Err, reply.Val.N, later, outs)
	return m
}

func ExampleDo() {
	l := tells(nil, a, makes("q", api.OQueue, 1))
	l = tells(l, a, pushes("q", numb(5)))
	l = tells(l, a, pushes("q", numb(6)))
	l = tells(l, a, just(api.CPop, "q"))
	l = tells(l, a, just(api.CSize, "q"))
	tells(l, a, gets("q", "a"))
	tells(l, a, gets("z", "a"))
	// Output:
	// 0 0 false []
	// 0 0 false []
	// 6 0 false []
	// 0 5 false []
	// 0 0 false []
	// 7 0 false []
	// 5 0 false []
}

func ExampleDo_lock() {
	l := tells(nil, a, makes("l", api.OLock, 0))
	l = tells(l, a, just(api.CLock, "l"))
	l = tells(l, b, just(api.CLock, "l"))
	l = tells(l, a, just(api.CDrop, "l"))
	tells(l, a, just(api.CFree, "l"))
	// Output:
	// 0 0 false []
	// 0 0 false []
	// 0 0 true []
	// 13 0 false []
	// 0 0 false [{{1 1 1} {0 {0 0 0 }}}]
}

func ExampleDo_gate() {
	l := tells(nil, a, makes("g", api.OGate, 2))
	l = tells(l, a, just(api.CWait, "g"))
	l = tells(l, b, just(api.CWait, "g"))
	l = tells(l, b, just(api.CWait, "g"))
	tells(l, a, just(api.CWait, "g"))
	// Output:
	// 0 0 false []
	// 0 0 true []
	// 0 0 false [{{0 1 1} {0 {1 0 0 }}}]
	// 0 0 true []
	// 0 1 false [{{1 1 1} {0 {1 1 0 }}}]
}

func ExampleDrop() {
	l, outs := store.Drop(objects(aGate("g", 3, 0, b, a), aLock("l", a, b)), a)
	fmt.Println(l[0].Refs, l[1].Refs, outs)
	// Output:
	// [{1 1 1}] [{1 1 1}] [{{1 1 1} {0 {0 0 0 }}}]
}
