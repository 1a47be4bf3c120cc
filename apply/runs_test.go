package apply_test

import (
	"fmt"
	"math/rand"
	"testing"

	"phalanx/api"
	"phalanx/apply"
)

// steps are the events that two clients may come to over s: each one's next
// requests (three of its first session, one of its second), its last one once more,
// its next session, and its session's end.
func steps(s api.State) []api.Event {
	l := []api.Event{}
	for client := range 2 {
		own := s.Sessions[client]
		if own.Epoch < 2 {
			l = append(l, api.Event{Ref: ref(client, own.Epoch+1, 0), Cmd: command("open")})
		}
		if own.Epoch == 0 {
			continue
		}
		l = append(l, api.Event{Ref: ref(client, own.Epoch, 0), Cmd: command("expire")})
		for _, c := range []api.Cmd{command("lock", "k"), command("lock", "l"), command("free", "l"), command("wait", "g"), command("close"), command("drop", "l")} {
			if own.Req > 0 {
				l = append(l, api.Event{Ref: ref(client, own.Epoch, own.Req), Cmd: c})
			}
			if own.Req < 5-2*own.Epoch {
				l = append(l, api.Event{Ref: ref(client, own.Epoch, own.Req+1), Cmd: c})
			}
		}
	}
	return l
}

// TestAllStates goes to all states to which the events of two clients lead, with two
// locks and a gate, and holds each step of the way.
func TestAllStates(t *testing.T) {
	begin := state(objects(aGate("g", 2, 0), aLock("k"), aLock("l")))
	seen := map[string]int{fmt.Sprint(begin): 1}
	todo := []api.State{begin}
	for len(todo) > 0 {
		s := todo[0]
		todo = todo[1:]
		for _, e := range steps(s) {
			x := holdsAnswer(t, s, e)
			follows(t, s, e, x)
			x.s.Count = begin.Count
			if key := fmt.Sprint(x.s); seen[key] == 0 {
				seen[key] = 1
				todo = append(todo, x.s)
			}
		}
	}
	if len(seen) < 1000 {
		t.Errorf("there are %d states alone", len(seen))
	}
}

// one gives one of them.
func one[T any](w *rand.Rand, l ...T) T { return l[w.Intn(len(l))] }

// atWill is an event of a client, mostly its next one.
func atWill(w *rand.Rand, s api.State, client int) api.Event {
	own := s.Sessions[client]
	switch n := w.Intn(30); {
	case n == 0 || own.Epoch == 0:
		return api.Event{Ref: ref(client, own.Epoch+1, 0), Cmd: command("open")}
	case n == 1:
		return api.Event{Ref: ref(client, own.Epoch-w.Intn(2), 0), Cmd: one(w, command("open"), command("expire"))}
	case n < 5:
		return api.Event{Ref: ref(client, own.Epoch-w.Intn(2), own.Req-2+w.Intn(5)), Cmd: one(w, commands()...)}
	case !own.Live:
		return api.Event{Ref: ref(client, own.Epoch+w.Intn(2), 0), Cmd: command("open")}
	}
	c := one(w, commands()...)
	if w.Intn(2) == 0 {
		c = command(one(w, "lock", "lock", "free", "wait"), one(w, "g", "h", "k", "l"))
	}
	if w.Intn(3) == 0 {
		c = one(w, command("make", "g", "4", "3"), command("make", "h", "4", "2"), command("make", "k", "3", "0"), command("make", "l", "3", "0"))
	}
	return api.Event{Ref: ref(client, own.Epoch, own.Req+1), Cmd: c}
}

// TestRunsAtWill takes events of five clients; each request has at most one reply,
// however often that is told.
func TestRunsAtWill(t *testing.T) {
	w := rand.New(rand.NewSource(17))
	met := map[api.Errno]int{}
	many := 0
	for range 150 {
		s := api.State{}
		known := map[api.Ref]api.Reply{}
		for range 400 {
			e := atWill(w, s, w.Intn(5))
			x := holdsAnswer(t, s, e)
			follows(t, s, e, x)
			for _, out := range x.outs {
				was, is := known[out.Ref]
				if is && was != out.Reply {
					t.Fatalf("%v has the replies %v and %v", out.Ref, was, out.Reply)
				}
				if !is {
					met[out.Reply.Err]++
				}
				known[out.Ref] = out.Reply
			}
			if len(x.outs) > 1 {
				many++
			}
			s = x.s
		}
		if !apply.Right(s) {
			t.Fatalf("a run leads to %s", short(s))
		}
	}
	for _, e := range []api.Errno{api.OK, api.ErrNone, api.ErrFull, api.ErrKind, api.ErrTwice, api.ErrUnlike, api.ErrEmpty, api.ErrHeld, api.ErrOwner, api.ErrBusy, api.ErrSession} {
		if met[e] < 20 {
			t.Errorf("the runs meet the error %d but %d times", e, met[e])
		}
	}
	if many < 200 {
		t.Errorf("the runs tell several replies at once but %d times", many)
	}
}

// TestAlike lets several replicas apply the same events, one of them each event
// twice: they tell the same, and come to the same.
func TestAlike(t *testing.T) {
	w := rand.New(rand.NewSource(71))
	for range 40 {
		a, b, c := api.State{}, api.State{}, api.State{}
		for range 100 {
			e := atWill(w, a, w.Intn(5))
			x, y := asked(a, e), asked(b, e)
			twice, _ := apply.Apply(c, e)
			twice, _ = apply.Apply(twice, e)
			a, b, c = x.s, y.s, twice
			if !x.is(y) {
				t.Fatalf("%s leads to %s and %s", short(e), short(x.s), short(y.s))
			}
		}
		a.Count, c.Count = 0, 0
		if !same(a, c) {
			t.Fatalf("events that come twice lead to %s, not %s", short(c), short(a))
		}
	}
}
