package snap_test

import (
	"math/rand"
	"slices"
	"strings"
	"testing"

	"phalanx/api"
	"phalanx/apply"
	"phalanx/snap"
)

// rows are known events, one behind the other from nothing on.
func rows() [][]string {
	return [][]string{
		// A session's life.
		{
			"0.1.0 open", "0.1.1 touch", "0.1.1 touch", "0.1.2 close", "0.1.3 touch", "0.2.0 open", "0.2.1 touch", "0.2.0 expire", "0.9.0 open",
		},
		// Each object's commands.
		{
			"2.1.0 open", "2.1.1 make m 1 0", "2.1.2 put m a 4", "2.1.3 put m b 5", "2.1.4 swap m a 4 long", "2.1.5 swap m b 4 long", "2.1.6 get m a", "2.1.7 cut m b",
			"2.1.8 make q 2 2", "2.1.9 push q z", "2.1.10 push q y", "2.1.11 push q x", "2.1.12 pop q", "2.1.13 make t 5 0", "2.1.14 add t 1", "2.1.15 add t -2", "2.1.16 read t 1",
			"2.1.17 drop q", "2.1.18 make a 3 0", "2.1.19 free a", "2.1.20 make b 1 0", "2.1.21 make c 1 0", "2.1.22 make d 1 0", "2.1.23 make e 1 0", "2.1.24 make f 1 0", "2.1.25 make h 1 0", "2.1.26 size m",
		},
		// Locks: held, waited for, given up; who holds one expires, or opens its next session.
		{
			"0.1.0 open", "0.1.1 make k 3 0", "0.1.2 make l 3 0", "0.1.3 lock k", "1.1.0 open", "1.1.1 lock l", "0.1.4 lock l", "2.1.0 open", "2.1.1 lock l", "1.1.2 lock k", "0.2.0 open", "0.2.1 lock k", "1.1.0 expire", "2.1.2 free l",
		},
		// A gate.
		{
			"0.1.0 open", "0.1.1 make g 4 3", "1.1.0 open", "2.1.0 open", "1.1.1 wait g", "0.1.2 wait g", "2.1.1 wait g", "2.1.2 wait g", "2.1.0 expire", "0.1.3 wait g", "1.1.2 wait g",
		},
		// As many sessions as may be Live, and one more.
		{
			"0.1.0 open", "1.1.0 open", "2.1.0 open", "3.1.0 open", "4.1.0 open", "3.2.0 open", "4.2.0 open", "0.1.1 close", "4.3.0 open",
		},
	}
}

// behind gives all states to which a row leads, and the last one.
func behind(row []string) ([]api.State, api.State) {
	s := api.State{}
	l := []api.State{}
	for _, line := range row {
		s, _ = apply.Apply(s, event(line))
		l = append(l, s)
	}
	return l, s
}

// rowsEnds are the last states of the rows, and those half way.
func rowsEnds() []api.State {
	l := []api.State{}
	for _, row := range rows() {
		all, last := behind(row)
		l = append(l, all[len(all)/2], last)
	}
	return l
}

// states are all that are built, and all to which the rows lead.
func states() []api.State {
	l := built()
	for _, row := range rows() {
		all, _ := behind(row)
		l = append(l, all...)
	}
	return l
}

// brought is a replica that is brought up with the bytes of s.
func brought(t *testing.T, s api.State) api.State {
	t.Helper()
	x, e := snap.Decode(encode(t, s))
	if e != api.OK || !same(x, s) {
		t.Fatalf("%s comes back as %s, error %d", short(s), short(x), e)
	}
	return x
}

// next lets a replica apply an event, and asks that it comes to s, tells outs, and
// writes the same bytes as who has s.
func next(t *testing.T, x api.State, e api.Event, s api.State, outs []api.Out) api.State {
	t.Helper()
	x, told := apply.Apply(x, e)
	if !same(x, s) || !slices.Equal(told, outs) || encode(t, x) != encode(t, s) {
		t.Fatalf("who was brought up comes by %s to %s, %s, not %s, %s", short(e), short(x), short(told), short(s), short(outs))
	}
	return x
}

// TestRowsGoOn: a state that was written and read, at each place of a row, goes on
// as it would have.
func TestRowsGoOn(t *testing.T) {
	for _, row := range rows() {
		s := api.State{}
		all := []api.State{}
		for _, line := range row {
			all = append(all, brought(t, s))
			after, outs := apply.Apply(s, event(line))
			for i, x := range all {
				all[i] = next(t, x, event(line), after, outs)
			}
			s = after
		}
	}
}

// one gives one of them.
func one(w *rand.Rand, l ...string) string { return l[w.Intn(len(l))] }

// atWill is an event of a client, mostly its next one.
func atWill(w *rand.Rand, s api.State, client int) api.Event {
	own := s.Sessions[client]
	opening := api.Event{Ref: ref(client, own.Epoch+1, 0), Cmd: command("open")}
	switch n := w.Intn(25); {
	case n == 0 || !own.Live:
		return opening
	case n == 1:
		return api.Event{Ref: ref(client, own.Epoch, 0), Cmd: command("expire")}
	case n == 2:
		return api.Event{Ref: ref(client, own.Epoch, own.Req), Cmd: command("touch")}
	}
	made := one(w, "make g 4 3", "make k 3 0", "make l 3 0", "make m 1 0", "make q 2 3", "make t 5 0", "drop m", "drop q", "touch", "close")
	stood := one(w, "lock k", "lock l", "free k", "free l", "wait g")
	done := one(w, "put m a 1", "put m b 2", "put m c 3", "cut m a", "get m b", "swap m a 1 long", "push q z", "pop q", "add t 1", "add t 7", "read t 1", "size q")
	return api.Event{Ref: ref(client, own.Epoch, own.Req+1), Cmd: command(one(w, made, stood, stood, done, done))}
}

// TestRunsGoOn takes events of five clients; two replicas are brought up anew, one of
// them at each event.
func TestRunsGoOn(t *testing.T) {
	w := rand.New(rand.NewSource(18))
	met := map[int]int{}
	for range 60 {
		s, often, seldom := api.State{}, api.State{}, api.State{}
		for i := range 250 {
			if i%50 == 0 {
				seldom = brought(t, often)
			}
			often = brought(t, seldom)
			e := atWill(w, s, w.Intn(5))
			after, outs := apply.Apply(s, e)
			often = next(t, often, e, after, outs)
			seldom = next(t, seldom, e, after, outs)
			s = after
			for _, o := range s.Objects {
				met[o.Kind] += len(o.Pairs) + len(o.Vals) + len(o.Refs) + min(1, o.Meter.Count)
			}
		}
	}
	for kind := api.OMap; kind <= api.OMeter; kind++ {
		if met[kind] < 1000 {
			t.Errorf("in objects of the kind %d stand but %d parts", kind, met[kind])
		}
	}
}

// TestSameBytes: who has a state writes the same bytes, whichever way led to it.
func TestSameBytes(t *testing.T) {
	a, b := api.State{}, api.State{}
	for _, line := range strings.Split("0.1.0 open,0.1.1 make b 1 0,0.1.2 make a 1 0,0.1.3 put a y 1,0.1.4 put a x 2,0.1.5 touch", ",") {
		a, _ = apply.Apply(a, event(line))
	}
	for _, line := range strings.Split("0.1.0 open,0.1.1 make a 1 0,0.1.2 put a x 2,0.1.3 make b 1 0,0.1.4 put a y 1,0.1.5 touch", ",") {
		b, _ = apply.Apply(b, event(line))
	}
	if encode(t, a) != encode(t, b) {
		t.Errorf("%q and %q", encode(t, a), encode(t, b))
	}
}
