package session_test

import (
	"fmt"
	"math"
	"testing"

	"phalanx/api"
	"phalanx/session"
)

// holds holds all calls over t and of r against what they should answer.
func holds(t *testing.T, l table, r api.Ref) {
	t.Helper()
	if got, want := session.Look(l, r), looks(l, r); got != want {
		t.Fatalf("Look of %v over %v = %d, not %d", r, l, got, want)
	}
	got, x := session.Open(l, r)
	if want, y := opens(l, r); got != want || x != y {
		t.Fatalf("Open of %v over %v = %v, %v, not %v, %v", r, l, got, x, want, y)
	}
	may(t, l, got)
	got = session.Begin(l, r)
	if want := begins(l, r); got != want {
		t.Fatalf("Begin of %v over %v = %v, not %v", r, l, got, want)
	}
	may(t, l, got)
}

// holdsEnd and holdsClose do so with the other two.
func holdsEnd(t *testing.T, l table, r api.Ref, x api.Reply) {
	t.Helper()
	got := session.End(l, r, x)
	if want := ends(l, r, x); got != want {
		t.Fatalf("End of %v with %v over %v = %v, not %v", r, x, l, got, want)
	}
	may(t, l, got)
}

func holdsClose(t *testing.T, l table, client int) {
	t.Helper()
	got := session.Close(l, client)
	if want := closes(l, client); got != want {
		t.Fatalf("Close of %d over %v = %v, not %v", client, l, got, want)
	}
	may(t, l, got)
}

// may asks what is answered to be sessions that may be, if those ahead of it may.
func may(t *testing.T, l, m table) {
	t.Helper()
	if right(l) && !session.Right(m) {
		t.Fatalf("behind %v there is %v, which may not be", l, m)
	}
}

// P16.1

func TestRightOfKnown(t *testing.T) {
	for _, x := range []struct {
		s    api.Session
		want bool
	}{
		{api.Session{}, true},
		{opened(1, 0, api.Reply{}), true},
		{opened(1, 0, failed(api.ErrFull)), true},
		{opened(math.MaxInt, math.MaxInt, told(text(long(64)))), true},
		{gone(1, 0, failed(api.ErrFull)), true},
		{gone(1, 1, failed(api.ErrSession)), true},
		{doing(1, 1), true},
		{doing(math.MaxInt, math.MaxInt), true},
		{opened(0, 0, api.Reply{}), false},
		{opened(-1, 0, api.Reply{}), false},
		{opened(1, -1, api.Reply{}), false},
		{opened(1, 0, failed(19)), false},
		{opened(1, 0, failed(-1)), false},
		{opened(1, 0, told(text(long(65)))), false},
		{gone(0, 0, api.Reply{}), false},
		{gone(1, math.MinInt, api.Reply{}), false},
		{doing(1, 0), false},
		{doing(0, 1), false},
		{doing(1, -1), false},
		{api.Session{Epoch: 1, Req: 1}, false},
		{api.Session{Epoch: 1}, false},
		{api.Session{Req: 1}, false},
		{api.Session{Live: true}, false},
		{api.Session{Done: true}, false},
		{api.Session{Reply: failed(api.ErrArg)}, false},
		{api.Session{Reply: told(numb(0))}, false},
		{api.Session{Live: true, Epoch: 1, Req: 1, Reply: failed(api.ErrArg)}, false},
		{api.Session{Live: true, Epoch: 1, Req: 1, Reply: told(numb(0))}, false},
	} {
		for client := range 5 {
			if got := session.Right(over(table{}, client, x.s)); got != x.want {
				t.Errorf("Right of %v for the client %d = %v", x.s, client, got)
			}
		}
	}
}

// TestRightOfAny takes sessions of all fields, at each client, alone and among
// others.
func TestRightOfAny(t *testing.T) {
	for _, s := range sessions() {
		for client := range 5 {
			for i, l := range among(client) {
				l[client] = s
				if got := session.Right(l); got != right(l) || i == 0 && got != rightSession(s) {
					t.Fatalf("Right of %v = %v", l, got)
				}
			}
		}
	}
}

// TestRightOfLive takes each set of clients as those whose session is Live, the
// others having one that has ended, or none; with a request that waits, too.
func TestRightOfLive(t *testing.T) {
	for set := range 32 {
		for _, other := range []api.Session{{}, gone(2, 3, api.Reply{})} {
			for _, open := range []api.Session{opened(1, 0, api.Reply{}), doing(1, 1)} {
				l := table{}
				for i := range l {
					l[i] = other
					if set>>i&1 == 1 {
						l[i] = open
					}
				}
				if got := session.Right(l); got != (set != 31) {
					t.Errorf("Right of %v = %v", l, got)
				}
			}
		}
	}
}

// P16.2

func TestLookOfKnown(t *testing.T) {
	for _, x := range []struct {
		s    api.Session
		r    api.Ref
		want int
	}{
		{api.Session{}, ref(0, 1, 0), fresh},
		{api.Session{}, ref(0, 1, 1), strange},
		{api.Session{}, ref(0, math.MaxInt, 0), fresh},
		{api.Session{}, ref(0, 0, 0), strange},
		{opened(1, 0, api.Reply{}), ref(0, 1, 0), again},
		{opened(1, 0, api.Reply{}), ref(0, 1, 1), fresh},
		{opened(1, 0, api.Reply{}), ref(0, 1, 2), strange},
		{opened(1, 0, api.Reply{}), ref(0, 2, 0), fresh},
		{opened(1, 0, api.Reply{}), ref(0, 2, 1), strange},
		{opened(3, 0, api.Reply{}), ref(0, 2, 0), strange},
		{opened(3, 0, api.Reply{}), ref(0, 5, 0), fresh},
		{opened(3, 4, api.Reply{}), ref(0, 2, 5), strange},
		{opened(3, 4, api.Reply{}), ref(0, 4, 5), strange},
		{opened(3, 4, api.Reply{}), ref(0, 3, 3), strange},
		{opened(3, 4, api.Reply{}), ref(0, 3, 0), strange},
		{opened(3, 4, api.Reply{}), ref(0, 3, 4), again},
		{opened(3, 4, api.Reply{}), ref(0, 3, 5), fresh},
		{opened(3, 4, api.Reply{}), ref(0, 3, 6), strange},
		{opened(3, 4, api.Reply{}), ref(0, 3, -1), strange},
		{opened(3, 4, api.Reply{}), ref(1, 3, 4), strange},
		{opened(3, 4, api.Reply{}), ref(1, 1, 0), fresh},
		{opened(3, 4, api.Reply{}), ref(5, 4, 0), strange},
		{opened(3, 4, api.Reply{}), ref(-1, 4, 0), strange},
		{doing(3, 4), ref(0, 3, 4), waits},
		{doing(3, 4), ref(0, 3, 5), strange},
		{doing(3, 4), ref(0, 3, 3), strange},
		{doing(3, 4), ref(0, 4, 0), fresh},
		{doing(3, 4), ref(0, 2, 0), strange},
		{gone(3, 4, failed(api.ErrSession)), ref(0, 3, 4), again},
		{gone(3, 4, failed(api.ErrSession)), ref(0, 3, 5), ended},
		{gone(3, 4, failed(api.ErrSession)), ref(0, 3, 6), ended},
		{gone(3, 4, failed(api.ErrSession)), ref(0, 3, math.MaxInt), ended},
		{gone(3, 4, failed(api.ErrSession)), ref(0, 3, 3), strange},
		{gone(3, 4, failed(api.ErrSession)), ref(0, 4, 0), fresh},
		{gone(3, 4, failed(api.ErrSession)), ref(0, 4, 1), strange},
		{gone(3, 0, failed(api.ErrFull)), ref(0, 3, 0), again},
		{gone(3, 0, failed(api.ErrFull)), ref(0, 3, 1), ended},
		{opened(math.MaxInt, math.MaxInt, api.Reply{}), ref(0, math.MaxInt, math.MaxInt), again},
		{opened(math.MaxInt, math.MaxInt-1, api.Reply{}), ref(0, math.MaxInt, math.MaxInt), fresh},
		{doing(math.MaxInt, math.MaxInt), ref(0, math.MaxInt, math.MaxInt), waits},
		{opened(math.MaxInt, math.MaxInt, api.Reply{}), ref(0, math.MaxInt, 0), strange},
		{opened(math.MaxInt, math.MaxInt, api.Reply{}), ref(0, math.MinInt, 0), strange},
		{opened(1, math.MaxInt, api.Reply{}), ref(0, 1, math.MinInt), strange},
		{doing(3, 0), ref(0, 4, 0), strange},
		{api.Session{Done: true}, ref(0, 1, 0), strange},
	} {
		if got := session.Look(table{x.s}, x.r); got != x.want {
			t.Errorf("Look of %v over %v = %d, not %d", x.r, x.s, got, x.want)
		}
	}
}

// TestLookOfNoClient takes clients that there aren't.
func TestLookOfNoClient(t *testing.T) {
	for _, client := range []int{math.MinInt, -5, -1, 5, 6, math.MaxInt} {
		for _, l := range append(among(0), table{opened(1, 0, api.Reply{})}) {
			for _, r := range refs(client) {
				holds(t, l, r)
				holdsEnd(t, l, r, api.Reply{})
				if got := session.Look(l, r); got != strange {
					t.Fatalf("Look of %v = %d", r, got)
				}
			}
			holdsClose(t, l, client)
		}
	}
}

// TestOfAny holds Look, Open and Begin of all requests, over sessions of all
// fields, against the words; End and Close, too.
func TestOfAny(t *testing.T) {
	replies := []api.Reply{{}, told(numb(3)), failed(19)}
	for i, s := range sessions() {
		client := i % 5
		for j, l := range among(client) {
			l[client] = s
			holdsClose(t, l, client)
			for _, r := range refs(client) {
				holds(t, l, r)
				holdsEnd(t, l, r, replies[(i+j)%3])
			}
		}
	}
}

// TestOfOneThatMayNotBe spoils a table at each client, one time: nothing is done
// for any client.
func TestOfOneThatMayNotBe(t *testing.T) {
	good := table{opened(1, 2, api.Reply{}), doing(1, 1), gone(2, 1, failed(api.ErrNone)), {}, opened(4, 0, api.Reply{})}
	for at := range good {
		for _, s := range []api.Session{{Live: true}, {Done: true}, {Epoch: 1}, doing(1, 0), opened(1, -1, api.Reply{}), opened(1, 1, failed(19))} {
			l := over(good, at, s)
			nothing(t, l)
		}
	}
	full := table{}
	for i := range full {
		full[i] = opened(1, 1, api.Reply{})
	}
	nothing(t, full)
	nothing(t, over(full, 2, doing(1, 1)))
}

// nothing asks all calls to leave l as it is.
func nothing(t *testing.T, l table) {
	t.Helper()
	for client := range 5 {
		for epoch := range 6 {
			for req := range 4 {
				r := ref(client, epoch, req)
				m, x := session.Open(l, r)
				if session.Look(l, r) != strange || m != l || x != failed(api.ErrArg) || session.Begin(l, r) != l || session.End(l, r, api.Reply{}) != l {
					t.Errorf("%v may not be, and something is done of %v", l, r)
				}
			}
		}
		if session.Close(l, client) != l {
			t.Errorf("%v may not be, and %d closes", l, client)
		}
	}
}

// P16.3

func TestOpenOfKnown(t *testing.T) {
	for _, x := range []struct {
		s    api.Session
		r    api.Ref
		want api.Session
		e    api.Errno
	}{
		{api.Session{}, ref(0, 1, 0), opened(1, 0, api.Reply{}), api.OK},
		{api.Session{}, ref(0, 7, 0), opened(7, 0, api.Reply{}), api.OK},
		{opened(1, 5, told(numb(3))), ref(0, 2, 0), opened(2, 0, api.Reply{}), api.OK},
		{doing(1, 5), ref(0, math.MaxInt, 0), opened(math.MaxInt, 0, api.Reply{}), api.OK},
		{gone(1, 5, failed(api.ErrSession)), ref(0, 3, 0), opened(3, 0, api.Reply{}), api.OK},
		{gone(1, 0, failed(api.ErrFull)), ref(0, 2, 0), opened(2, 0, api.Reply{}), api.OK},
		{api.Session{}, ref(0, 1, 1), api.Session{}, api.ErrArg},
		{api.Session{}, ref(0, 0, 0), api.Session{}, api.ErrArg},
		{opened(1, 0, api.Reply{}), ref(0, 1, 0), opened(1, 0, api.Reply{}), api.ErrArg},
		{opened(1, 0, api.Reply{}), ref(0, 1, 1), opened(1, 0, api.Reply{}), api.ErrArg},
		{opened(2, 0, api.Reply{}), ref(0, 1, 0), opened(2, 0, api.Reply{}), api.ErrArg},
		{gone(2, 3, api.Reply{}), ref(0, 2, 4), gone(2, 3, api.Reply{}), api.ErrArg},
		{gone(2, 0, failed(api.ErrFull)), ref(0, 2, 0), gone(2, 0, failed(api.ErrFull)), api.ErrArg},
	} {
		got, reply := session.Open(table{x.s}, x.r)
		if got != (table{x.want}) || reply != failed(x.e) {
			t.Errorf("Open of %v over %v = %v, %v", x.r, x.s, got, reply)
		}
	}
}

// TestOpenOfMany takes each set of clients whose session is Live, and each client
// that opens one: all but the one itself must be in it, for no room to be left.
func TestOpenOfMany(t *testing.T) {
	for set := range 31 {
		l := table{}
		for i := range l {
			if set>>i&1 == 1 {
				l[i] = opened(2, 3, told(numb(i)))
			}
		}
		for client := range 5 {
			holds(t, l, ref(client, 4, 0))
			m, x := session.Open(l, ref(client, 4, 0))
			full := set|1<<client == 31
			if (x.Err == api.ErrFull) != full || m[client].Live == full || m[client].Reply != x || session.Look(m, ref(client, 4, 0)) != again {
				t.Errorf("Open of %d over %v = %v, %v", client, l, m, x)
			}
		}
	}
}

// P16.4

// TestReplies takes each reply to each of a table's requests that wait, and to
// others.
func TestReplies(t *testing.T) {
	l := table{doing(1, 1), doing(2, 5), opened(1, 1, api.Reply{}), gone(1, 1, failed(api.ErrArg)), doing(math.MaxInt, math.MaxInt)}
	for i, all := range [][]api.Reply{goodReplies(), wrongReplies()} {
		for _, x := range all {
			for client := range 5 {
				for epoch := range 4 {
					for req := range 7 {
						holdsEnd(t, l, ref(client, epoch, req), x)
					}
				}
				holdsEnd(t, l, ref(client, math.MaxInt, math.MaxInt), x)
			}
			m := session.End(l, ref(1, 2, 5), x)
			if done := m == over(l, 1, opened(2, 5, x)); done != (i == 0) || !done && m != l {
				t.Errorf("End with %v = %v", x, m)
			}
			if session.End(m, ref(1, 2, 5), failed(api.ErrNone)) != m && i == 0 {
				t.Errorf("what has ended with %v ends once more", x)
			}
		}
	}
}

func TestCloseOfKnown(t *testing.T) {
	for _, x := range []struct{ s, want api.Session }{
		{api.Session{}, api.Session{}},
		{opened(1, 0, api.Reply{}), gone(1, 0, api.Reply{})},
		{opened(2, 3, told(numb(4))), gone(2, 3, told(numb(4)))},
		{opened(2, 3, failed(api.ErrNone)), gone(2, 3, failed(api.ErrNone))},
		{doing(2, 3), gone(2, 3, failed(api.ErrSession))},
		{gone(2, 3, api.Reply{}), gone(2, 3, api.Reply{})},
		{doing(2, 0), doing(2, 0)},
		{opened(0, 3, api.Reply{}), opened(0, 3, api.Reply{})},
	} {
		for client := range 5 {
			for other := range 5 {
				l := over(table{}, client, x.s)
				want := l
				if other == client {
					want = over(table{}, client, x.want)
				}
				if got := session.Close(l, other); got != want {
					t.Errorf("Close of %d over %v = %v", other, l, got)
				}
			}
		}
	}
}

func Example() {
	var t [api.MaxClients]api.Session
	at := func(epoch, req int) api.Ref { return ref(0, epoch, req) }
	fmt.Println(session.Look(t, at(1, 0)), session.Look(t, at(1, 1)))
	t, x := session.Open(t, at(1, 0))
	fmt.Println(x.Err, session.Look(t, at(1, 0)), session.Look(t, at(1, 1)), session.Look(t, at(1, 2)))
	t = session.Begin(t, at(1, 1))
	fmt.Println(session.Look(t, at(1, 1)))
	t = session.End(t, at(1, 1), api.Reply{})
	fmt.Println(session.Look(t, at(1, 1)), session.Look(t, at(1, 0)), session.Look(t, at(2, 0)))
	t = session.Close(t, 0)
	fmt.Println(session.Look(t, at(1, 2)), session.Look(t, at(1, 1)))
	// Output:
	// 1 5
	// 0 2 1 5
	// 3
	// 2 5 1
	// 4 2
}
