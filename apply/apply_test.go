package apply_test

import (
	"fmt"
	"math"
	"slices"
	"strings"
	"testing"

	"phalanx/api"
	"phalanx/apply"
)

// P17.1

func TestRightOfKnown(t *testing.T) {
	ok := api.Reply{}
	head, tail := ref(0, 1, 2), ref(1, 1, 3)
	for i, x := range []struct {
		s    api.State
		want bool
	}{
		{api.State{}, true},
		{api.State{Count: math.MaxInt}, true},
		{api.State{Count: -1}, false},
		{api.State{Count: math.MinInt}, false},
		{state(objects(aLock("l"))), true},
		{state(objects(aLock("l"), aLock("l"))), false},
		{state(objects(aLock("l"), aLock("k"))), false},
		{state(objects(api.Object{Name: "l", Kind: 9})), false},
		{state(nil, opened(1, 0, ok)), true},
		{state(nil, opened(0, 0, ok)), false},
		{state(nil, opened(1, 1, ok), opened(1, 1, ok), opened(1, 1, ok), opened(1, 1, ok), gone(1, 1, ok)), true},
		{state(nil, opened(1, 1, ok), opened(1, 1, ok), opened(1, 1, ok), opened(1, 1, ok), opened(1, 1, ok)), false},
		{state(nil, doing(1, 1)), false},

		{state(objects(aLock("l", head)), opened(1, 2, ok)), true},
		{state(objects(aLock("l", head)), opened(1, 2, failed(api.ErrNone))), true},
		{state(objects(aLock("l", head)), opened(1, 3, ok)), true},
		{state(objects(aLock("l", head)), opened(1, 1, ok)), false},
		{state(objects(aLock("l", head)), opened(2, 2, ok)), false},
		{state(objects(aLock("l", head)), gone(1, 2, ok)), false},
		{state(objects(aLock("l", head)), gone(1, 3, ok)), false},
		{state(objects(aLock("l", head)), doing(1, 2)), false},
		{state(objects(aLock("l", head))), false},
		{state(objects(aLock("l", ref(0, 1, 0))), opened(1, 2, ok)), false},
		{state(objects(aLock("l", ref(0, 1, 1))), opened(1, 2, ok)), true},
		{state(objects(aLock("l", ref(0, 2, 1))), opened(1, 2, ok)), false},
		{state(objects(aLock("k", head), aLock("l", head)), opened(1, 2, ok)), true},
		{state(objects(aLock("l", head), aLock("m", ref(0, 1, 1))), opened(1, 2, ok)), true},

		{state(objects(aLock("l", head, tail)), opened(1, 2, ok), doing(1, 3)), true},
		{state(objects(aLock("l", head, tail)), opened(1, 2, ok), doing(1, 4)), false},
		{state(objects(aLock("l", head, tail)), opened(1, 2, ok), doing(2, 3)), false},
		{state(objects(aLock("l", head, tail)), opened(1, 2, ok), opened(1, 3, ok)), false},
		{state(objects(aLock("l", head, tail)), opened(1, 2, ok), gone(1, 3, ok)), false},
		{state(objects(aLock("l", head, tail)), opened(1, 2, ok)), false},
		{state(objects(aLock("l", tail, head)), doing(1, 2), opened(1, 3, ok)), true},
		{state(objects(aLock("l", tail, head)), doing(1, 2), doing(1, 3)), false},
		{state(objects(aLock("k", head, tail), aLock("l", head, tail)), opened(1, 2, ok), doing(1, 3)), false},
		{state(objects(aLock("k", ref(0, 1, 1), tail), aLock("l", ref(1, 1, 2), head)), doing(1, 2), doing(1, 3)), true},
		{state(objects(aLock("k", head, tail), aLock("l", ref(1, 1, 3))), opened(1, 2, ok), doing(1, 3)), false},
		{state(objects(aLock("k", head, tail), aLock("l", ref(1, 1, 1))), opened(1, 2, ok), doing(1, 3)), true},

		{state(objects(aGate("g", 2, 0, tail)), api.Session{}, doing(1, 3)), true},
		{state(objects(aGate("g", 2, 0, tail)), api.Session{}, opened(1, 3, ok)), false},
		{state(objects(aGate("g", 2, 0, tail)), api.Session{}, opened(1, 4, ok)), false},
		{state(objects(aGate("g", 2, 0, tail)), api.Session{}, gone(1, 3, ok)), false},
		{state(objects(aGate("g", 3, 0, tail, head)), doing(1, 2), doing(1, 3)), true},
		{state(objects(aGate("g", 3, 0, head)), doing(1, 2), doing(1, 3)), false},
		{state(objects(aGate("g", 3, 0, head), aLock("l", ref(2, 1, 1), tail)), doing(1, 2), doing(1, 3), opened(1, 1, ok)), true},
		{state(objects(aGate("f", 3, 0, head), aGate("g", 3, 0, head)), doing(1, 2)), false},
		{state(objects(aGate("f", 3, 0, head), aLock("l", ref(1, 1, 1), head)), doing(1, 2), opened(1, 1, ok)), false},
	} {
		if got := apply.Right(x.s); got != x.want || got != right(x.s) {
			t.Errorf("%d: Right of %s = %v", i, short(x.s), got)
		}
	}
}

// TestRightOfPlaces takes two clients whose sessions are of all sorts, with
// requests at two locks and a gate.
func TestRightOfPlaces(t *testing.T) {
	ok := api.Reply{}
	sessions := []api.Session{{}, opened(1, 2, ok), opened(1, 3, failed(api.ErrHeld)), doing(1, 2), doing(1, 3), doing(2, 2), gone(1, 2, ok), gone(2, 3, ok)}
	own := func(client int) []api.Ref {
		return refs(ref(client, 1, 0), ref(client, 1, 1), ref(client, 1, 2), ref(client, 1, 3), ref(client, 2, 2))
	}
	met := map[bool]int{}
	for _, a := range sessions {
		for _, b := range sessions {
			for _, x := range own(0) {
				for _, y := range own(1) {
					at := [][]api.Ref{nil, refs(x), refs(y), refs(x, y), refs(y, x)}
					for i := range len(at) * len(at) * len(at) {
						s := state(objects(aGate("g", 3, 0, at[i%5]...), aLock("k", at[i/5%5]...), aLock("l", at[i/25]...)), a, b)
						got := apply.Right(s)
						met[got]++
						if got != right(s) {
							t.Fatalf("Right of %s = %v", short(s), got)
						}
					}
				}
			}
		}
	}
	if met[true] < 1000 || met[false] < 1000 {
		t.Errorf("%v", met)
	}
}

func TestRightOfSpoilt(t *testing.T) {
	for _, s := range reached() {
		given := roomy(s)
		was := wide(given)
		if !apply.Right(given) || !same(wide(given), was) {
			t.Fatalf("Right of %s = false, or changes it", short(s))
		}
		for _, x := range spoilt(s) {
			if apply.Right(x) != right(x) {
				t.Fatalf("Right of %s = %v", short(x), !right(x))
			}
		}
	}
}

// P17.2

// rows are known events, one behind the other from nothing on, each with the replies
// that it tells.
func rows() [][]string {
	return [][]string{
		// A session's life.
		{
			"0.1.1 touch >", "0.1.0 expire >", "0.1.0 open > 0.1.0:0", "0.1.0 open > 0.1.0:0", "0.1.2 touch >", "0.1.1 touch > 0.1.1:0", "0.1.1 touch > 0.1.1:0",
			"0.1.0 open >", "0.1.2 close > 0.1.2:0", "0.1.2 close > 0.1.2:0", "0.1.3 touch > 0.1.3:14", "0.1.4 close > 0.1.4:14", "0.1.1 touch >", "0.1.0 expire >",
			"0.2.0 open > 0.2.0:0", "0.1.2 close >", "0.1.0 expire >", "0.3.0 expire >", "0.2.1 touch > 0.2.1:0", "0.2.0 expire >", "0.2.0 expire >", "0.2.1 touch > 0.2.1:0",
			"0.2.2 touch > 0.2.2:14", "0.9.0 open > 0.9.0:0", "0.8.0 open >",
		},
		// Each object's commands, and their errors; what comes twice is done once.
		{
			"2.1.0 open > 2.1.0:0", "2.1.1 make m 1 0 > 2.1.1:0", "2.1.2 put m a 4 > 2.1.2:0", "2.1.3 get m a > 2.1.3:0=4", "2.1.3 cut m a > 2.1.3:0=4",
			"2.1.4 get m b > 2.1.4:5", "2.1.4 get m b > 2.1.4:5", "2.1.5 swap m a 5 6 > 2.1.5:9=4", "2.1.6 cut m a > 2.1.6:0=4", "2.1.7 cut m a > 2.1.7:5",
			"2.1.8 make m 2 1 > 2.1.8:8", "2.1.9 make q 2 1 > 2.1.9:0", "2.1.10 push q 3 > 2.1.10:0", "2.1.10 push q 3 > 2.1.10:0", "2.1.11 push q 4 > 2.1.11:6",
			"2.1.12 size q > 2.1.12:0=1", "2.1.13 pop q > 2.1.13:0=3", "2.1.13 pop q > 2.1.13:0=3", "2.1.14 pop q > 2.1.14:10", "2.1.15 lock q > 2.1.15:7",
			"2.1.16 make t 5 0 > 2.1.16:0", "2.1.17 read t 1 > 2.1.17:10", "2.1.18 add t 2 > 2.1.18:0", "2.1.18 add t 2 > 2.1.18:0", "2.1.19 read t 0 > 2.1.19:0=1",
			"2.1.20 read t 1 > 2.1.20:0~2", "2.1.21 drop t > 2.1.21:0", "2.1.22 drop t > 2.1.22:5", "2.1.23 free l > 2.1.23:5",
		},
		// A lock: held, waited for, given up, kept by who has it.
		{
			"0.1.0 open > 0.1.0:0", "0.1.1 make l 3 0 > 0.1.1:0", "0.1.2 lock l > 0.1.2:0", "1.1.0 open > 1.1.0:0", "1.1.1 lock l >", "1.1.1 lock l >", "1.1.2 touch >", "1.1.0 open >",
			"2.1.0 open > 2.1.0:0", "2.1.1 free l > 2.1.1:12", "2.1.2 lock l >", "0.1.2 lock l > 0.1.2:0", "0.1.3 lock l > 0.1.3:11", "0.1.4 drop l > 0.1.4:13", "0.1.5 size l > 0.1.5:0=3",
			"0.1.6 free l > 0.1.6:0 1.1.1:0", "1.1.1 lock l > 1.1.1:0", "0.1.6 free l > 0.1.6:0", "0.1.7 lock l >", "1.1.2 free l > 1.1.2:0 2.1.2:0", "2.1.3 free l > 2.1.3:0 0.1.7:0",
			"0.1.8 free l > 0.1.8:0", "0.1.9 drop l > 0.1.9:0",
		},
		// Who holds a lock expires, closes, opens its next session.
		{
			"0.1.0 open > 0.1.0:0", "0.1.1 make l 3 0 > 0.1.1:0", "0.1.2 lock l > 0.1.2:0", "1.1.0 open > 1.1.0:0", "1.1.1 lock l >", "0.1.0 expire > 1.1.1:0", "0.1.3 lock l > 0.1.3:14", "0.1.2 lock l > 0.1.2:0",
			"0.2.0 open > 0.2.0:0", "0.2.1 lock l >", "1.1.2 close > 1.1.2:0 0.2.1:0", "1.1.2 close > 1.1.2:0", "1.2.0 open > 1.2.0:0", "1.2.1 lock l >", "0.3.0 open > 0.3.0:0 1.2.1:0", "0.3.0 open > 0.3.0:0",
		},
		// Who waits expires, or opens its next session; its other locks go to others.
		{
			"0.1.0 open > 0.1.0:0", "0.1.1 make k 3 0 > 0.1.1:0", "0.1.2 make l 3 0 > 0.1.2:0", "0.1.3 make m 3 0 > 0.1.3:0", "0.1.4 lock l > 0.1.4:0",
			"1.1.0 open > 1.1.0:0", "1.1.1 lock m > 1.1.1:0", "1.1.2 lock k > 1.1.2:0", "1.1.3 lock l >", "2.1.0 open > 2.1.0:0", "2.1.1 lock m >", "3.1.0 open > 3.1.0:0", "3.1.1 lock k >",
			"1.1.0 expire > 1.1.3:14 3.1.1:0 2.1.1:0", "1.1.3 lock l > 1.1.3:14", "1.1.4 touch > 1.1.4:14", "0.1.5 free l > 0.1.5:0",
			"1.2.0 open > 1.2.0:0", "0.1.6 lock m >", "1.2.1 lock k >", "2.1.2 lock k >", "2.2.0 open > 2.2.0:0 2.1.2:14 0.1.6:0", "3.1.2 close > 3.1.2:0 1.2.1:0",
		},
		// Two that wait for one another: the first one's end lets the other go on.
		{
			"0.1.0 open > 0.1.0:0", "0.1.1 make k 3 0 > 0.1.1:0", "0.1.2 make l 3 0 > 0.1.2:0", "0.1.3 lock k > 0.1.3:0", "1.1.0 open > 1.1.0:0", "1.1.1 lock l > 1.1.1:0",
			"0.1.4 lock l >", "1.1.2 lock k >", "0.2.0 open > 0.2.0:0 0.1.4:14 1.1.2:0", "1.1.3 size k > 1.1.3:0=1",
		},
		// A gate: all go through at once, in order; who leaves isn't counted.
		{
			"0.1.0 open > 0.1.0:0", "0.1.1 make g 4 3 > 0.1.1:0", "1.1.0 open > 1.1.0:0", "2.1.0 open > 2.1.0:0", "1.1.1 wait g >", "0.1.2 wait g >", "0.1.2 wait g >", "0.1.3 wait g >",
			"2.1.1 wait g > 2.1.1:0=0 1.1.1:0=0 0.1.2:0=0", "1.1.1 wait g > 1.1.1:0=0", "2.1.1 wait g > 2.1.1:0=0", "2.1.2 wait g >", "2.1.0 expire > 2.1.2:14", "0.1.3 wait g >", "1.1.2 size g > 1.1.2:0=1",
			"1.1.3 drop g > 1.1.3:13", "1.1.4 wait g >", "1.2.0 open > 1.2.0:0 1.1.4:14", "2.2.0 open > 2.2.0:0", "2.2.1 wait g >", "1.2.1 wait g > 1.2.1:0=1 0.1.3:0=1 2.2.1:0=1",
		},
		// As many sessions as may be Live, and one more.
		{
			"0.1.0 open > 0.1.0:0", "1.1.0 open > 1.1.0:0", "2.1.0 open > 2.1.0:0", "3.1.0 open > 3.1.0:0", "4.1.0 open > 4.1.0:6", "4.1.0 open > 4.1.0:6", "4.1.1 touch > 4.1.1:14", "4.1.0 expire >",
			"3.2.0 open > 3.2.0:0", "4.2.0 open > 4.2.0:6", "0.1.1 close > 0.1.1:0", "4.2.0 open > 4.2.0:6", "4.3.0 open > 4.3.0:0", "0.2.0 open > 0.2.0:6", "4.3.1 touch > 4.3.1:0",
		},
		// As many objects as may be, and one more.
		{
			"0.1.0 open > 0.1.0:0", "0.1.1 make a 1 0 > 0.1.1:0", "0.1.2 make b 2 8 > 0.1.2:0", "0.1.3 make c 3 0 > 0.1.3:0", "0.1.4 make d 4 5 > 0.1.4:0", "0.1.5 make e 5 0 > 0.1.5:0",
			"0.1.6 make f 1 0 > 0.1.6:0", "0.1.7 make g 4 1 > 0.1.7:0", "0.1.8 make h 3 0 > 0.1.8:0", "0.1.9 make i 3 0 > 0.1.9:6", "0.1.10 wait g > 0.1.10:0=0", "0.1.11 wait g > 0.1.11:0=1",
		},
	}
}

// TestRows plays them, one event after the other.
func TestRows(t *testing.T) {
	for _, row := range rows() {
		s := api.State{}
		for i, line := range row {
			words, want, _ := strings.Cut(line, ">")
			e := event(words)
			holds(t, s, e)
			next, outs := apply.Apply(s, e)
			if got := shown(outs); got != strings.TrimSpace(want) || next.Count != i+1 {
				t.Fatalf("%s, behind %s, tells %q", line, short(row[:i]), got)
			}
			s = next
		}
	}
}

// TestStates looks at what the rows' last events leave.
func TestStates(t *testing.T) {
	ok := api.Reply{}
	for i, want := range map[int]api.State{
		0: {Count: 25, Sessions: [5]api.Session{opened(9, 0, ok)}},
		3: {Count: 16, Objects: objects(aLock("l", ref(1, 2, 1))), Sessions: [5]api.Session{opened(3, 0, ok), opened(2, 1, ok)}},
		4: {Count: 23, Objects: objects(aLock("k", ref(1, 2, 1)), aLock("l"), aLock("m", ref(0, 1, 6))),
			Sessions: [5]api.Session{opened(1, 6, ok), opened(2, 1, ok), opened(2, 0, ok), gone(1, 2, ok)}},
		6: {Count: 21, Objects: objects(aGate("g", 3, 2)), Sessions: [5]api.Session{opened(1, 3, valued(numb(1))), opened(2, 1, valued(numb(1))), opened(2, 1, valued(numb(1)))}},
		7: {Count: 15, Sessions: [5]api.Session{gone(2, 0, failed(api.ErrFull)), opened(1, 0, ok), opened(1, 0, ok), opened(2, 0, ok), opened(3, 1, ok)}},
	} {
		s := api.State{}
		for _, line := range rows()[i] {
			words, _, _ := strings.Cut(line, ">")
			s, _ = apply.Apply(s, event(words))
		}
		if !same(s, want) {
			t.Errorf("the row %d leads to %s, not %s", i, short(s), short(want))
		}
	}
}

// TestApplyOfAny takes each state with all commands, of all clients, by names near
// those that they are at.
func TestApplyOfAny(t *testing.T) {
	for i, s := range reached() {
		for client := range 5 {
			for j, r := range near(s, client) {
				for k, c := range commands() {
					e := api.Event{Ref: r, Cmd: c}
					// Openings and ends have the number 0, all else has another one: of
					// events that may not be, a few are enough.
					if (c.Kind == api.COpen || c.Kind == api.CExpire) == (r.Req == 0) || (i+j+k)%23 == 0 {
						holdsAnswer(t, s, e)
					}
					if (i+j+k)%29 == 0 {
						holds(t, s, e)
					}
				}
			}
		}
	}
}

// TestApplyOfWrong takes events that may not be, states that may not be, and those
// that can't count any more: nothing is done.
func TestApplyOfWrong(t *testing.T) {
	for i, s := range reached() {
		for _, e := range wrong() {
			nothing(t, s, e)
		}
		for j, x := range spoilt(s) {
			for k, e := range wrong() {
				if (i+j+k)%37 == 0 {
					nothing(t, x, e)
				}
			}
			for client := range 5 {
				own := s.Sessions[client]
				for _, e := range []api.Event{
					{Ref: ref(client, own.Epoch+1, 0), Cmd: command("open")},
					{Ref: ref(client, own.Epoch, 0), Cmd: command("expire")},
					{Ref: ref(client, own.Epoch, own.Req+1), Cmd: command("touch")},
					{Ref: ref(client, own.Epoch, own.Req), Cmd: command("lock", "l")},
				} {
					if !right(x) {
						nothing(t, x, e)
					}
				}
			}
		}
		full := clone(s)
		full.Count = math.MaxInt
		for _, e := range []api.Event{event("0.1.0 expire"), event("4.99.0 open"), event("1.1.1 lock l"), event("0.1.2 lock l")} {
			nothing(t, full, e)
		}
	}
}

// TestLastCount lets the last event that can be counted be done.
func TestLastCount(t *testing.T) {
	s := state(objects(aLock("l", ref(0, 1, 1), ref(1, 1, 1))), opened(1, 1, api.Reply{}), doing(1, 1))
	s.Count = math.MaxInt - 1
	last, outs := apply.Apply(s, event("0.1.2 free l"))
	if shown(outs) != "0.1.2:0 1.1.1:0" || last.Count != math.MaxInt {
		t.Errorf("the last event tells %s, and leads to %s", shown(outs), short(last))
	}
	nothing(t, last, event("1.1.2 free l"))
	nothing(t, last, event("0.1.2 free l"))
}

// nothing asks Apply to answer s as it is, and no replies.
func nothing(t *testing.T, s api.State, e api.Event) {
	t.Helper()
	holds(t, s, e)
	if got, outs := apply.Apply(s, e); !same(got, s) || len(outs) > 0 {
		t.Fatalf("%s may not be, or %s, and something is done: %s, %s", short(e), short(s), short(got), shown(outs))
	}
}

// holdsAnswer holds what Apply answers against what it should.
func holdsAnswer(t *testing.T, s api.State, e api.Event) answer {
	t.Helper()
	want, outs := does(s, e)
	got := asked(s, e)
	if !got.is(answer{want, outs}) {
		t.Fatalf("%s over %s: %s, %s, not %s, %s", short(e), short(s), short(got.s), shown(got.outs), short(want), shown(outs))
	}
	return got
}

// holds does so, with what follows, and asks Apply to leave what it is given as it
// is, spare room too, to hand out no memory of that, nor of another answer or list,
// and to keep none.
func holds(t *testing.T, s api.State, e api.Event) {
	t.Helper()
	want := holdsAnswer(t, s, e)
	follows(t, s, e, want)
	given := roomy(s)
	was := wide(given)
	got, other := asked(given, e), asked(given, e)
	if !apart(other.s, other.outs) {
		t.Fatalf("%s hands out lists that share memory: over %s", short(e), short(s))
	}
	if !same(wide(given), was) {
		t.Fatalf("%s changes what it is given, or hands out memory of it: %s", short(e), short(s))
	}
	apart(given, nil)
	if !got.is(want) {
		t.Fatalf("%s over %s with spare room, or when that changes: %s, not %s", short(e), short(s), short(got), short(want))
	}
}

// P17.3

// follows holds what follows of a state and an event that may be.
func follows(t *testing.T, s api.State, e api.Event, x answer) {
	t.Helper()
	if !right(s) {
		return
	}
	if !apply.Right(x.s) {
		t.Fatalf("%s over %s leads to %s, which may not be", short(e), short(s), short(x.s))
	}
	stood(t, x.s)
	own, is := first(x.outs, e.Ref)
	if is && own.Err != api.OK && e.Cmd.Kind != api.COpen && !sameObjects(x.s.Objects, s.Objects) {
		t.Fatalf("%s over %s has the error %d, and leads to %s", short(e), short(s), own.Err, short(x.s))
	}
	if x.s.Count == math.MaxInt {
		return
	}
	once := asked(x.s, e)
	rest := once.s
	rest.Count--
	twice, told := first(once.outs, e.Ref)
	if !same(rest, x.s) && x.s.Count != s.Count {
		t.Fatalf("%s once more over %s changes it: %s", short(e), short(x.s), short(once.s))
	}
	if is && (!told || twice != own || len(once.outs) != 1) || !is && len(once.outs) > 0 {
		t.Fatalf("%s over %s tells %s, and once more %s", short(e), short(s), shown(x.outs), shown(once.outs))
	}
}

// first is the first reply, if it is that of r.
func first(l []api.Out, r api.Ref) (api.Reply, bool) {
	if len(l) == 0 || l[0].Ref != r {
		return api.Reply{}, false
	}
	return l[0].Reply, true
}

// stood asks all who stand at a lock or a gate to have a session that is Live.
func stood(t *testing.T, s api.State) {
	t.Helper()
	for _, o := range s.Objects {
		if i := slices.IndexFunc(o.Refs, func(r api.Ref) bool {
			own := s.Sessions[r.Client]
			return !own.Live || own.Epoch != r.Epoch
		}); i > -1 {
			t.Fatalf("%s: a session that has left stands at %s", short(s), o.Name)
		}
	}
}

func Example() {
	s := api.State{}
	for _, line := range []string{"0.1.0 open", "0.1.1 make l 3 0", "0.1.2 lock l", "1.1.0 open", "1.1.1 lock l", "0.1.0 expire", "0.1.3 lock l"} {
		t, outs := apply.Apply(s, event(line))
		fmt.Println(shown(outs))
		s = t
	}
	fmt.Println(s.Count, apply.Right(s))
	// Output:
	// 0.1.0:0
	// 0.1.1:0
	// 0.1.2:0
	// 1.1.0:0
	//
	// 1.1.1:0
	// 0.1.3:14
	// 7 true
}
