package store_test

import (
	"math/rand"
	"testing"

	"phalanx/api"
	"phalanx/store"
)

// P15.4, and all else of the chapter over what the calls have answered.

// run is objects among calls: those that the store answers, those that it should,
// and which session and request each client is at.
type run struct {
	mine, its []api.Object
	who       [5]api.Ref
}

func newRun() *run {
	x := &run{}
	for client := range x.who {
		x.who[client] = ref(client, 1, 0)
	}
	return x
}

// does lets the client give a command.
func (x *run) does(t *testing.T, client int, c api.Cmd) answer {
	t.Helper()
	x.who[client].Req++
	r := x.who[client]
	want, got := does(x.mine, r, c), theDo(x.its, r, c)
	if !got.is(want) || !store.Right(got.l) {
		t.Fatalf("Do of %v, %v over %s = %s, not %s", r, c, short(x.its), short(got), short(want))
	}
	x.mine, x.its = want.l, got.l
	return got
}

// drops ends the client's session, and begins its next one.
func (x *run) drops(t *testing.T, client int) {
	t.Helper()
	r := x.who[client]
	want, got := drops(x.mine, r), theDrop(x.its, r)
	if !got.is(want) || !store.Right(got.l) {
		t.Fatalf("Drop of %v over %s = %s, not %s", r, short(x.its), short(got), short(want))
	}
	x.mine, x.its = want.l, got.l
	x.who[client] = ref(client, r.Epoch+1, 0)
}

// steps are what may be done in short runs, by two clients.
func steps() []func(*testing.T, *run) {
	l := []func(*testing.T, *run){}
	for _, c := range []api.Cmd{
		{Kind: api.CMake, Name: "x", N: api.OLock},
		{Kind: api.CMake, Name: "x", N: api.OGate, M: 2},
		{Kind: api.CMake, Name: "y", N: api.OQueue, M: 1},
		{Kind: api.CDrop, Name: "x"},
		{Kind: api.CSize, Name: "x"},
		{Kind: api.CPush, Name: "y", Val: numb(4)},
		{Kind: api.CPop, Name: "y"},
	} {
		l = append(l, func(t *testing.T, x *run) { x.does(t, 0, c) })
	}
	for client := range 2 {
		l = append(l, func(t *testing.T, x *run) { x.drops(t, client) })
		for _, kind := range []int{api.CLock, api.CFree, api.CWait} {
			l = append(l, func(t *testing.T, x *run) { x.does(t, client, api.Cmd{Kind: kind, Name: "x"}) })
		}
	}
	return l
}

// TestAllShortRuns takes all rows of four of those.
func TestAllShortRuns(t *testing.T) {
	const length = 4
	each := steps()
	all := 1
	for range length {
		all *= len(each)
	}
	for row := range all {
		x := newRun()
		for rest, i := row, 0; i < length; rest, i = rest/len(each), i+1 {
			each[rest%len(each)](t, x)
		}
	}
}

// one gives one of them.
func one[T any](w *rand.Rand, l ...T) T { return l[w.Intn(len(l))] }

// atWill is a command of any kind, now and then one that is refused.
func atWill(w *rand.Rand, x *run) api.Cmd {
	c := api.Cmd{Kind: api.CMake + w.Intn(api.CSize-api.CMake+1)}
	c.Name = one(w, "a", "b", "c", "cc", "d", "e", "f", "g", "h", "i")
	if len(x.its) > 0 && w.Intn(4) > 0 {
		o := one(w, x.its...)
		c.Name = o.Name
		if w.Intn(3) > 0 {
			c.Kind = one(w, kindsOf(o.Kind)...)
		}
	}
	switch c.Kind {
	case api.CMake:
		c.N = 1 + w.Intn(5)
		c.M = []int{0, 0, 1 + w.Intn(4), 0, 1 + w.Intn(5), 0}[c.N]
	case api.CGet, api.CCut, api.CPut, api.CSwap:
		c.Key = one(w, "", "a", "b", "c", "d", "e", "f", "g", "h", "aa")
	case api.CRead:
		c.N = w.Intn(4)
	}
	switch c.Kind {
	case api.CPut, api.CPush:
		c.Val = one(w, numb(1), numb(2), text("s"), bits(nan))
	case api.CSwap:
		c.Val = one(w, numb(1), numb(2), api.Value{})
		c.Old = one(w, numb(1), numb(2), text("s"), api.Value{})
	case api.CAdd:
		c.Val = one(w, float(1e300), float(0.1), float(-0.3), float(1e-300), numb(1))
	}
	return c
}

// kindsOf are the kinds of commands for objects of a kind, in numbers that let them
// fill; that one drops them is seldom.
func kindsOf(kind int) []int {
	switch kind {
	case api.OMap:
		return []int{api.CGet, api.CPut, api.CPut, api.CPut, api.CCut, api.CSwap, api.CSize}
	case api.OQueue:
		return []int{api.CPush, api.CPush, api.CPop, api.CSize}
	case api.OLock:
		return []int{api.CLock, api.CLock, api.CFree, api.CSize}
	case api.OGate:
		return []int{api.CWait, api.CWait, api.CWait, api.CSize}
	}
	return []int{api.CAdd, api.CRead, api.CSize}
}

// TestRunsAtWill takes calls of all clients, who begin sessions anew too.
func TestRunsAtWill(t *testing.T) {
	w := rand.New(rand.NewSource(15))
	met := map[api.Errno]int{}
	for range 200 {
		x := newRun()
		for range 300 {
			client := w.Intn(5)
			if w.Intn(20) == 0 {
				x.drops(t, client)
				continue
			}
			met[x.does(t, client, atWill(w, x)).reply.Err]++
		}
	}
	for _, e := range []api.Errno{api.OK, api.ErrNone, api.ErrFull, api.ErrKind, api.ErrTwice, api.ErrUnlike, api.ErrEmpty, api.ErrHeld, api.ErrOwner, api.ErrBusy} {
		if met[e] < 100 {
			t.Errorf("the runs meet the error %d but %d times", e, met[e])
		}
	}
}
