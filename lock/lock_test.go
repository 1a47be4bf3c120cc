package lock_test

import (
	"fmt"
	"math"
	"math/rand"
	"slices"
	"testing"

	"phalanx/api"
	"phalanx/lock"
)

func ref(client, epoch, req int) api.Ref {
	return api.Ref{Client: client, Epoch: epoch, Req: req}
}

// The first requests of five clients, as in the chapter's examples.
var (
	a = ref(0, 1, 1)
	b = ref(1, 1, 1)
	c = ref(2, 1, 1)
	d = ref(3, 1, 1)
	e = ref(4, 1, 1)
)

func refs(l ...api.Ref) []api.Ref { return l }

// short is x in few words, all of them to be read.
func short(x any) string { return fmt.Sprintf("%.300q", fmt.Sprint(x)) }

// marked is a request that is in no lock.
var marked = ref(77, 77, 77)

// roomy is l's requests, with three that are marked in the spare room behind them.
func roomy(l []api.Ref) []api.Ref {
	return slices.Concat(l, refs(marked, marked, marked))[:len(l)]
}

// bad are requests that may not be.
func bad() []api.Ref {
	l := refs(api.Ref{}, ref(-1, 1, 1), ref(5, 1, 1), ref(0, 0, 1), ref(0, 1, -1), ref(1, 0, 0), ref(4, -1, 1), ref(4, 1, -1), ref(5, 0, -1))
	for _, n := range []int{math.MinInt, -1 << 32, -256, -5, 6, 7, 12, 255, 256, 1 << 31, 1 << 32, 1<<32 + 1, math.MaxInt} {
		l = append(l, ref(n, 1, 1))
		if n < 0 {
			l = append(l, ref(2, n, 1), ref(2, 1, n), ref(2, n, n))
		}
	}
	return l
}

// may tells whether r may be, by chapter 9's words.
func may(r api.Ref) bool {
	return slices.Contains([]int{0, 1, 2, 3, 4}, r.Client) && r.Epoch > 0 && r.Req > -1
}

// of is a request of that client that may be: all that are of one turn differ.
func of(client, turn int) api.Ref {
	epochs := []int{1, 2, 3, math.MaxInt - 1, math.MaxInt, 1 << 32}
	reqs := []int{0, 1, math.MaxInt, 7, 1 << 32, 2, math.MaxInt - 1}
	return ref(client, epochs[(client+turn)%len(epochs)], reqs[(2*client+turn)%len(reqs)])
}

// rows are all rows of clients, none twice.
func rows() [][]int {
	all := [][]int{nil}
	for at := 0; at < len(all); at++ {
		for client := range 5 {
			if !slices.Contains(all[at], client) {
				all = append(all, slices.Concat(all[at], []int{client}))
			}
		}
	}
	return all
}

// locks are locks that may be: all rows of clients, of several sessions each.
func locks() [][]api.Ref {
	all := [][]api.Ref{}
	for turn, row := range rows() {
		same, other := refs(), refs()
		for _, client := range row {
			same = append(same, ref(client, 1, 1))
			other = append(other, of(client, turn))
		}
		all = append(all, same, other)
	}
	return all
}

// wrong are lists that no lock may be: with a request that may not be in each
// place, with two of one client in each two places, and with too many.
func wrong() [][]api.Ref {
	all := [][]api.Ref{bad(), make([]api.Ref, 1), make([]api.Ref, 5), make([]api.Ref, 1000), refs(a, b, c, d, e, a), refs(a, b, c, d, e, ref(5, 1, 1))}
	five := refs(of(3, 0), of(0, 0), of(4, 0), of(1, 0), of(2, 0))
	for at := range five {
		for _, r := range bad() {
			l := slices.Clone(five)
			l[at] = r
			all = append(all, l, l[at:at+1], l[:at+1], l[at:])
		}
		for other := range at {
			for turn := range 3 {
				l := slices.Clone(five)
				l[at] = of(l[other].Client, turn)
				all = append(all, l, l[other:at+1], refs(l[other], l[at]), refs(l[at], l[other]))
			}
		}
	}
	return append(all, slices.Repeat(five, 2), slices.Repeat(five, 200))
}

// askers are requests to ask with: of each client some sessions, those of which
// requests are in l among them, and all that may not be.
func askers(l []api.Ref) []api.Ref {
	all := bad()
	for client := range 5 {
		all = append(all, ref(client, 1, 1), of(client, 1), of(client, 4))
	}
	for _, r := range l {
		all = append(all, r, ref(r.Client, r.Epoch, 0), ref(r.Client, r.Epoch, 9), ref(r.Client, r.Epoch, -1), ref(r.Client, r.Epoch, math.MinInt),
			ref(r.Client, r.Epoch+1, r.Req), ref(r.Client, r.Epoch-1, r.Req), ref((r.Client+1)%5, r.Epoch, r.Req), ref(r.Client+5, r.Epoch, r.Req), ref(r.Client-5, r.Epoch, r.Req))
	}
	return all
}

// The words of the chapter.

func right(l []api.Ref) bool {
	clients := map[int]int{}
	for _, r := range l {
		clients[r.Client]++
		if !may(r) || clients[r.Client] == 2 {
			return false
		}
	}
	return true
}

func ofClient(r api.Ref) func(api.Ref) bool {
	return func(x api.Ref) bool { return x.Client == r.Client }
}

func ofSession(r api.Ref) func(api.Ref) bool {
	return func(x api.Ref) bool { return x.Client == r.Client && x.Epoch == r.Epoch }
}

// answer is what a call answers: where it has no such result, zero.
type answer struct {
	l  []api.Ref
	r  api.Ref
	is bool
	e  api.Errno
}

func take(l []api.Ref, r api.Ref) answer {
	switch {
	case !right(l), !may(r):
		return answer{l: l, e: api.ErrArg}
	case slices.ContainsFunc(l, ofClient(r)):
		return answer{l: l, e: api.ErrHeld}
	}
	m := slices.Concat(l, refs(r))
	return answer{l: m, is: m[0] == r}
}

func free(l []api.Ref, r api.Ref) answer {
	switch {
	case !right(l):
		return answer{l: l, e: api.ErrArg}
	case slices.IndexFunc(l, ofSession(r)) != 0:
		return answer{l: l, e: api.ErrOwner}
	case len(l) == 1:
		return answer{}
	}
	return answer{l: l[1:], r: l[1], is: true}
}

func drop(l []api.Ref, r api.Ref) answer {
	if !right(l) {
		return answer{l: l}
	}
	m := slices.DeleteFunc(slices.Clone(l), ofSession(r))
	if len(m) == 0 || m[0] == l[0] {
		return answer{l: m}
	}
	return answer{l: m, r: m[0], is: true}
}

// The calls themselves.

func theTake(l []api.Ref, r api.Ref) answer {
	m, had, err := lock.Take(l, r)
	return answer{l: m, is: had, e: err}
}

func theFree(l []api.Ref, r api.Ref) answer {
	m, next, some, err := lock.Free(l, r)
	return answer{m, next, some, err}
}

func theDrop(l []api.Ref, r api.Ref) answer {
	m, next, some := lock.Drop(l, r)
	return answer{l: m, r: next, is: some}
}

// call is one of them, and what it should answer.
type call struct {
	name string
	does func([]api.Ref, api.Ref) answer
	says func([]api.Ref, api.Ref) answer
}

func calls() []call {
	return []call{{"Take", theTake, take}, {"Free", theFree, free}, {"Drop", theDrop, drop}}
}

// spoil puts other requests all over what an answer's list has, its spare room too.
func spoil(l []api.Ref) {
	all := l[:cap(l)]
	for i := range all {
		all[i] = ref(88, 88, 88)
	}
}

// asks holds what the call answers against what it should, with and without spare
// room, and asks it to leave what it is given as it is, spare room too, to hand out
// no memory of it, nor of another answer, and to keep none.
func asks(t *testing.T, x call, l []api.Ref, r api.Ref, want answer) {
	t.Helper()
	given := roomy(l)
	for _, got := range []answer{x.does(given, r), x.does(slices.Clip(slices.Clone(l)), r)} {
		if !slices.Equal(got.l, want.l) || got.r != want.r || got.is != want.is || got.e != want.e {
			t.Fatalf("%s of %s, %v = %s, not %s", x.name, short(l), r, short(got), short(want))
		}
	}
	got, other := x.does(given, r), x.does(given, r)
	spoil(other.l)
	if !slices.Equal(given[:len(l)+3], slices.Concat(l, refs(marked, marked, marked))) {
		t.Fatalf("%s changes what it is given, or hands out memory of it: %s, %v", x.name, short(l), r)
	}
	for i := range given {
		given[i] = marked
	}
	if !slices.Equal(got.l, want.l) {
		t.Fatalf("%s keeps what it is given, or hands out memory twice: %s, %v", x.name, short(l), r)
	}
}

// known is what a call answers of known arguments.
type known struct {
	l    []api.Ref
	r    api.Ref
	want answer
}

// same holds the call and its words against what is known.
func same(t *testing.T, x call, all []known) {
	t.Helper()
	for _, k := range all {
		asks(t, x, k.l, k.r, k.want)
		asks(t, x, k.l, k.r, x.says(k.l, k.r))
	}
}

// TestOfAny asks each call with all locks, and with lists that are none.
func TestOfAny(t *testing.T) {
	for _, x := range calls() {
		for _, l := range slices.Concat(locks(), wrong()) {
			for _, r := range askers(l[:min(len(l), 10)]) {
				asks(t, x, l, r, x.says(l, r))
			}
		}
	}
}

// P12.1

func TestRightKnown(t *testing.T) {
	all := []struct {
		l  []api.Ref
		is bool
	}{
		{nil, true},
		{refs(), true},
		{refs(a), true},
		{refs(ref(0, 1, 0)), true},
		{refs(ref(4, math.MaxInt, math.MaxInt)), true},
		{refs(a, b, c, d, e), true},
		{refs(e, c, a, d, b), true},
		{refs(ref(2, 9, 0), ref(0, 1, 5)), true},
		{refs(a, a), false},
		{refs(a, b, a), false},
		{refs(a, ref(0, 1, 2)), false},
		{refs(a, ref(0, 2, 1)), false},
		{refs(b, a, c, ref(0, 2, 2)), false},
		{refs(a, b, c, d, e, a), false},
		{refs(a, b, c, d, e, ref(5, 1, 1)), false},
		{refs(ref(-1, 1, 1)), false},
		{refs(ref(5, 1, 1)), false},
		{refs(ref(0, 0, 1)), false},
		{refs(ref(0, -1, 1)), false},
		{refs(ref(0, 1, -1)), false},
		{refs(api.Ref{}), false},
		{refs(a, api.Ref{}), false},
		{refs(b, ref(0, 1, -1)), false},
		{refs(ref(0, 0, 1), b), false},
	}
	for _, k := range all {
		if got := lock.Right(k.l); got != k.is || right(k.l) != k.is {
			t.Errorf("Right(%s) = %v", short(k.l), got)
		}
	}
}

func TestRightOfAny(t *testing.T) {
	for i, all := range [][][]api.Ref{locks(), wrong()} {
		for _, l := range all {
			given := roomy(l)
			if got := lock.Right(given); got != (i == 0) || got != right(l) {
				t.Fatalf("Right(%s) = %v", short(l), got)
			}
			if !slices.Equal(given[:len(l)+3], slices.Concat(l, refs(marked, marked, marked))) {
				t.Fatalf("Right changes %s", short(l))
			}
		}
	}
}

// TestRightOfOne takes each request by itself.
func TestRightOfOne(t *testing.T) {
	numbers := []int{math.MinInt, -1 << 32, -256, -2, -1, 0, 1, 2, 3, 4, 5, 6, 7, 12, 256, 260, 1 << 32, 1<<32 + 1, math.MaxInt}
	for _, client := range numbers {
		for _, epoch := range numbers {
			for _, req := range numbers {
				r := ref(client, epoch, req)
				if got := lock.Right(refs(r)); got != may(r) {
					t.Fatalf("Right of %v = %v", r, got)
				}
			}
		}
	}
}

// P12.2

func TestTakeKnown(t *testing.T) {
	same(t, calls()[0], []known{
		{nil, a, answer{l: refs(a), is: true}},
		{refs(), e, answer{l: refs(e), is: true}},
		{refs(a), b, answer{l: refs(a, b)}},
		{refs(b), a, answer{l: refs(b, a)}},
		{refs(a, b, c, d), e, answer{l: refs(a, b, c, d, e)}},
		{nil, ref(0, 1, 0), answer{l: refs(ref(0, 1, 0)), is: true}},
		{nil, ref(4, math.MaxInt, math.MaxInt), answer{l: refs(ref(4, math.MaxInt, math.MaxInt)), is: true}},
		{refs(a), a, answer{l: refs(a), e: api.ErrHeld}},
		{refs(a), ref(0, 1, 2), answer{l: refs(a), e: api.ErrHeld}},
		{refs(a), ref(0, 2, 1), answer{l: refs(a), e: api.ErrHeld}},
		{refs(a, b), b, answer{l: refs(a, b), e: api.ErrHeld}},
		{refs(a, b, c), ref(2, 7, 0), answer{l: refs(a, b, c), e: api.ErrHeld}},
		{refs(a, b, c, d, e), e, answer{l: refs(a, b, c, d, e), e: api.ErrHeld}},
		{nil, api.Ref{}, answer{e: api.ErrArg}},
		{nil, ref(5, 1, 1), answer{e: api.ErrArg}},
		{nil, ref(-1, 1, 1), answer{e: api.ErrArg}},
		{refs(a), ref(1, 1, -1), answer{l: refs(a), e: api.ErrArg}},
		{refs(a), ref(0, 1, -1), answer{l: refs(a), e: api.ErrArg}},
		{refs(a), ref(0, 0, 1), answer{l: refs(a), e: api.ErrArg}},
		{refs(a, b, c, d, e), ref(5, 1, 1), answer{l: refs(a, b, c, d, e), e: api.ErrArg}},
		{refs(a, a), b, answer{l: refs(a, a), e: api.ErrArg}},
		{refs(a, a), a, answer{l: refs(a, a), e: api.ErrArg}},
		{refs(api.Ref{}), a, answer{l: refs(api.Ref{}), e: api.ErrArg}},
		{refs(b, ref(0, 1, -1)), b, answer{l: refs(b, ref(0, 1, -1)), e: api.ErrArg}},
	})
}

// P12.3

func TestFreeKnown(t *testing.T) {
	same(t, calls()[1], []known{
		{refs(a), a, answer{}},
		{refs(a, b), a, answer{l: refs(b), r: b, is: true}},
		{refs(b, a), b, answer{l: refs(a), r: a, is: true}},
		{refs(e, d, c, b, a), e, answer{l: refs(d, c, b, a), r: d, is: true}},
		{refs(a, b), ref(0, 1, 9), answer{l: refs(b), r: b, is: true}},
		{refs(a, b), ref(0, 1, 0), answer{l: refs(b), r: b, is: true}},
		{refs(a, b), ref(0, 1, -1), answer{l: refs(b), r: b, is: true}},
		{refs(a), ref(0, 1, math.MinInt), answer{}},
		{refs(ref(3, 5, 2), b), ref(3, 5, 3), answer{l: refs(b), r: b, is: true}},
		{nil, a, answer{e: api.ErrOwner}},
		{refs(), api.Ref{}, answer{e: api.ErrOwner}},
		{nil, ref(-1, -1, -1), answer{e: api.ErrOwner}},
		{refs(a), b, answer{l: refs(a), e: api.ErrOwner}},
		{refs(a), ref(0, 2, 1), answer{l: refs(a), e: api.ErrOwner}},
		{refs(ref(0, 2, 1)), a, answer{l: refs(ref(0, 2, 1)), e: api.ErrOwner}},
		{refs(a), ref(0, 0, 1), answer{l: refs(a), e: api.ErrOwner}},
		{refs(a, b), b, answer{l: refs(a, b), e: api.ErrOwner}},
		{refs(a, b, c), ref(7, 1, 1), answer{l: refs(a, b, c), e: api.ErrOwner}},
		{refs(a, b, c), api.Ref{}, answer{l: refs(a, b, c), e: api.ErrOwner}},
		{refs(a, a), a, answer{l: refs(a, a), e: api.ErrArg}},
		{refs(a, a), b, answer{l: refs(a, a), e: api.ErrArg}},
		{refs(api.Ref{}), api.Ref{}, answer{l: refs(api.Ref{}), e: api.ErrArg}},
		{refs(ref(0, 1, -1)), ref(0, 1, -1), answer{l: refs(ref(0, 1, -1)), e: api.ErrArg}},
		{refs(a, api.Ref{}), a, answer{l: refs(a, api.Ref{}), e: api.ErrArg}},
	})
}

// P12.4

func TestDropKnown(t *testing.T) {
	same(t, calls()[2], []known{
		{refs(a, b, c), a, answer{l: refs(b, c), r: b, is: true}},
		{refs(a, b, c), b, answer{l: refs(a, c)}},
		{refs(a, b, c), c, answer{l: refs(a, b)}},
		{refs(a, b, c), d, answer{l: refs(a, b, c)}},
		{refs(a), a, answer{}},
		{refs(a), b, answer{l: refs(a)}},
		{nil, a, answer{}},
		{refs(), api.Ref{}, answer{}},
		{refs(e, d, c, b, a), e, answer{l: refs(d, c, b, a), r: d, is: true}},
		{refs(e, d, c, b, a), a, answer{l: refs(e, d, c, b)}},
		{refs(a, b), ref(0, 1, 9), answer{l: refs(b), r: b, is: true}},
		{refs(a, b), ref(0, 1, -1), answer{l: refs(b), r: b, is: true}},
		{refs(a, b), ref(1, 1, 0), answer{l: refs(a)}},
		{refs(a, b), ref(0, 2, 1), answer{l: refs(a, b)}},
		{refs(a, b), ref(0, 0, 1), answer{l: refs(a, b)}},
		{refs(a, b), ref(1, 2, 1), answer{l: refs(a, b)}},
		{refs(a, b), api.Ref{}, answer{l: refs(a, b)}},
		{refs(a, b), ref(-5, 1, 1), answer{l: refs(a, b)}},
		{refs(a, ref(0, 2, 1)), a, answer{l: refs(a, ref(0, 2, 1))}},
		{refs(a, b, a), a, answer{l: refs(a, b, a)}},
		{refs(a, b, a), b, answer{l: refs(a, b, a)}},
		{refs(api.Ref{}, b), api.Ref{}, answer{l: refs(api.Ref{}, b)}},
		{refs(a, ref(1, 1, -1)), a, answer{l: refs(a, ref(1, 1, -1))}},
		{refs(a, b, c, d, e, ref(5, 1, 1)), a, answer{l: refs(a, b, c, d, e, ref(5, 1, 1))}},
	})
}

// P12.5

// asker is a client among calls: its session, how many requests it has made, and
// of the one that holds the lock or waits, if there is such: which it is, and when
// it was made.
type asker struct {
	epoch, req int
	own        api.Ref
	since      int
}

// run is a lock among calls: who asks, how often somebody has, and who holds it
// (-1: nobody).
type run struct {
	l     []api.Ref
	who   [5]asker
	count int
	holds int
}

func newRun() *run {
	r := &run{holds: -1}
	for client := range r.who {
		r.who[client].epoch = 1
	}
	return r
}

// asks is the client's next request.
func (r *run) asks(client int) api.Ref {
	x := &r.who[client]
	x.req++
	return ref(client, x.epoch, x.req)
}

// goes lets the client have no request any more; if it held the lock, who has
// waited longest holds it. That one, and true, if there is such.
func (r *run) goes(client int) (api.Ref, bool) {
	r.who[client].since = 0
	if client != r.holds {
		return api.Ref{}, false
	}
	r.holds = -1
	for other, x := range r.who {
		if x.since > 0 && (r.holds < 0 || x.since < r.who[r.holds].since) {
			r.holds = other
		}
	}
	if r.holds < 0 {
		return api.Ref{}, false
	}
	return r.who[r.holds].own, true
}

// take lets the client ask for the lock.
func (r *run) take(t *testing.T, client int) {
	t.Helper()
	own := r.asks(client)
	wantE, want := api.OK, r.holds < 0
	if r.who[client].since > 0 {
		wantE, want = api.ErrHeld, false
	}
	l, had, err := lock.Take(r.l, own)
	if had != want || err != wantE {
		t.Fatalf("Take of %s, %v = %v, %d", short(r.l), own, had, err)
	}
	if err == api.OK {
		r.count++
		r.who[client].own, r.who[client].since = own, r.count
	}
	if had {
		r.holds = client
	}
	r.stands(t, l)
}

// free lets the client give the lock up.
func (r *run) free(t *testing.T, client int) {
	t.Helper()
	own := r.asks(client)
	wantE, next, some := api.ErrOwner, api.Ref{}, false
	if client == r.holds && own.Epoch == r.who[client].own.Epoch {
		wantE = api.OK
		next, some = r.goes(client)
	}
	l, gotNext, gotSome, err := lock.Free(r.l, own)
	if gotNext != next || gotSome != some || err != wantE {
		t.Fatalf("Free of %s, %v = %v, %v, %d", short(r.l), own, gotNext, gotSome, err)
	}
	r.stands(t, l)
}

// drop ends the client's session.
func (r *run) drop(t *testing.T, client int) {
	t.Helper()
	own := r.asks(client)
	next, some := api.Ref{}, false
	if own.Epoch == r.who[client].own.Epoch {
		next, some = r.goes(client)
	}
	l, gotNext, gotSome := lock.Drop(r.l, own)
	if gotNext != next || gotSome != some {
		t.Fatalf("Drop of %s, %v = %v, %v", short(r.l), own, gotNext, gotSome)
	}
	r.stands(t, l)
}

// anew begins a session of the client's, though its last one may not have ended.
func (r *run) anew(client int) { r.who[client].epoch++ }

// stands asks that l may be, that who holds the lock stands first in it, and that
// all others stand in the order in which they asked.
func (r *run) stands(t *testing.T, l []api.Ref) {
	t.Helper()
	own, since := refs(), []int{}
	for _, x := range l {
		own = append(own, r.who[x.Client].own)
		since = append(since, r.who[x.Client].since)
	}
	count := 0
	for _, x := range r.who {
		count += min(x.since, 1)
	}
	if !lock.Right(l) || !slices.Equal(l, own) || !slices.IsSorted(since) || len(l) != count || count > 0 && (since[0] == 0 || l[0].Client != r.holds) {
		t.Fatalf("behind %s there is %s", short(r.l), short(l))
	}
	r.l = l
}

// empty lets whoever holds the lock give it up, till nobody does.
func (r *run) empty(t *testing.T) {
	t.Helper()
	for len(r.l) > 0 {
		first := r.l[0]
		r.who[first.Client].epoch = first.Epoch
		r.free(t, first.Client)
	}
	if r.holds != -1 {
		t.Fatalf("%d holds a lock that is nobody's", r.holds)
	}
}

// does takes one of the calls of a client.
func (r *run) does(t *testing.T, what, client int) {
	t.Helper()
	switch what {
	case 0:
		r.take(t, client)
	case 1:
		r.free(t, client)
	case 2:
		r.drop(t, client)
	case 3:
		r.anew(client)
	}
}

// TestAllShortRuns takes all rows of six calls of three clients in one session.
func TestAllShortRuns(t *testing.T) {
	const each, length = 9, 6
	all := 1
	for range length {
		all *= each
	}
	for n := range all {
		r := newRun()
		for rest, i := n, 0; i < length; rest, i = rest/each, i+1 {
			r.does(t, rest%each/3, rest%3)
		}
		r.empty(t)
	}
}

// TestRunsAtWill takes calls of all clients, who begin sessions anew too, now and
// then while requests of the last one are still there.
func TestRunsAtWill(t *testing.T) {
	x := rand.New(rand.NewSource(12))
	for range 500 {
		r := newRun()
		for range 200 {
			r.does(t, []int{0, 0, 0, 0, 0, 1, 1, 1, 1, 2, 2, 3}[x.Intn(12)], x.Intn(5))
		}
		r.empty(t)
	}
}

// TestRefusedStays: what is refused leaves the lock as it was, for what comes
// behind it too.
func TestRefusedStays(t *testing.T) {
	for _, row := range rows() {
		r := newRun()
		for _, client := range row {
			r.take(t, client)
			for _, x := range bad() {
				l, had, err := lock.Take(r.l, x)
				r.stands(t, l)
				m, next, some, other := lock.Free(r.l, ref(x.Client, 0, x.Req))
				if had || err != api.ErrArg || next != (api.Ref{}) || some || other != api.ErrOwner {
					t.Fatalf("%v at %s: %v, %d, %v, %v, %d", x, short(r.l), had, err, next, some, other)
				}
				r.stands(t, m)
			}
		}
		r.empty(t)
	}
}

func ExampleTake() {
	l, had, err := lock.Take(nil, a)
	fmt.Println(l, had, err)
	l, had, err = lock.Take(l, b)
	fmt.Println(l, had, err)
	l, had, err = lock.Take(l, a)
	fmt.Println(l, had, err)
	// Output:
	// [{0 1 1}] true 0
	// [{0 1 1} {1 1 1}] false 0
	// [{0 1 1} {1 1 1}] false 11
}

func ExampleFree() {
	l, next, some, err := lock.Free(refs(a, b), b)
	fmt.Println(l, next, some, err)
	l, next, some, err = lock.Free(l, a)
	fmt.Println(l, next, some, err)
	l, next, some, err = lock.Free(l, a)
	fmt.Println(l, next, some, err)
	// Output:
	// [{0 1 1} {1 1 1}] {0 0 0} false 12
	// [{1 1 1}] {1 1 1} true 0
	// [{1 1 1}] {0 0 0} false 12
}

func ExampleDrop() {
	fmt.Println(lock.Drop(refs(a, b, c), a))
	fmt.Println(lock.Drop(refs(a, b, c), b))
	// Output:
	// [{1 1 1} {2 1 1}] {1 1 1} true
	// [{0 1 1} {2 1 1}] {0 0 0} false
}
