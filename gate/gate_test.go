package gate_test

import (
	"fmt"
	"math"
	"math/rand"
	"slices"
	"testing"

	"phalanx/api"
	"phalanx/gate"
)

func ref(client, epoch, req int) api.Ref {
	return api.Ref{Client: client, Epoch: epoch, Req: req}
}

// The first requests of five clients, as in the chapter's examples.
var (
	a = ref(0, 1, 1)
	b = ref(1, 1, 1)
	c = ref(2, 1, 1)
	d = ref(3, 1, 1)
	e = ref(4, 1, 1)
)

func refs(l ...api.Ref) []api.Ref { return l }

// short is x in few words, all of them to be read.
func short(x any) string { return fmt.Sprintf("%.300q", fmt.Sprint(x)) }

// marked is a request that waits nowhere.
var marked = ref(77, 77, 77)

// roomy is l's requests, with three that are marked in the spare room behind them.
func roomy(l []api.Ref) []api.Ref {
	return slices.Concat(l, refs(marked, marked, marked))[:len(l)]
}

// few are the numbers for which a gate may be.
func few() []int { return []int{1, 2, 3, 4, 5} }

// numbers are for how many a gate is asked for: near the bounds, and far off.
func numbers() []int {
	return slices.Concat(few(), []int{math.MinInt, -1 << 32, -256, -5, -1, 0, 6, 7, 8, 12, 255, 257, 1 << 31, 1<<32 + 2, math.MaxInt})
}

// bad are requests that may not be.
func bad() []api.Ref {
	l := refs(api.Ref{}, ref(-1, 1, 1), ref(5, 1, 1), ref(0, 0, 1), ref(0, 1, -1), ref(1, 0, 0), ref(4, -1, 1), ref(4, 1, -1), ref(5, 0, -1))
	for _, n := range []int{math.MinInt, -1 << 32, -256, 6, 256, 1 << 32, math.MaxInt} {
		l = append(l, ref(n, 1, 1))
		if n < 0 {
			l = append(l, ref(2, n, 1), ref(2, 1, n), ref(2, n, n))
		}
	}
	return l
}

// may tells whether r may be, by chapter 9's words.
func may(r api.Ref) bool {
	return slices.Contains([]int{0, 1, 2, 3, 4}, r.Client) && r.Epoch > 0 && r.Req > -1
}

// of is a request of that client that may be: all that are of one turn differ.
func of(client, turn int) api.Ref {
	epochs := []int{1, 2, 3, math.MaxInt - 1, math.MaxInt, 1 << 32}
	reqs := []int{0, 1, math.MaxInt, 7, 1 << 32, 2, math.MaxInt - 1}
	return ref(client, epochs[(client+turn)%len(epochs)], reqs[(2*client+turn)%len(reqs)])
}

// rows are all rows of clients, none twice.
func rows() [][]int {
	all := [][]int{nil}
	for at := 0; at < len(all); at++ {
		for client := range 5 {
			if !slices.Contains(all[at], client) {
				all = append(all, slices.Concat(all[at], []int{client}))
			}
		}
	}
	return all
}

// lists are requests that may wait at one gate, if it is for so many: all rows of
// clients, of several sessions each.
func lists() [][]api.Ref {
	all := [][]api.Ref{}
	for turn, row := range rows() {
		same, other := refs(), refs()
		for _, client := range row {
			same = append(same, ref(client, 1, 1))
			other = append(other, of(client, turn))
		}
		all = append(all, same, other)
	}
	return all
}

// wrong are lists that no gate may be: with a request that may not be in each
// place, with two of one client in each two places, and with too many.
func wrong() [][]api.Ref {
	all := [][]api.Ref{bad(), make([]api.Ref, 1), make([]api.Ref, 4), make([]api.Ref, 1000), refs(a, b, c, d, e), refs(a, b, c, d, a), refs(a, b, c, d, ref(5, 1, 1))}
	four := refs(of(3, 0), of(0, 0), of(4, 0), of(1, 0))
	for at := range four {
		for _, r := range bad() {
			l := slices.Clone(four)
			l[at] = r
			all = append(all, l, l[at:at+1], l[:at+1], l[at:])
		}
		for other := range at {
			for turn := range 3 {
				l := slices.Clone(four)
				l[at] = of(l[other].Client, turn)
				all = append(all, l, l[other:at+1], refs(l[other], l[at]), refs(l[at], l[other]))
			}
		}
	}
	return append(all, slices.Repeat(four, 2), slices.Repeat(four, 200))
}

// askers are requests to ask with: of each client some sessions, those of which
// requests are in l among them, and some that may not be.
func askers(l []api.Ref) []api.Ref {
	all := bad()
	for client := range 5 {
		all = append(all, ref(client, 1, 1), of(client, 1), of(client, 4))
	}
	for _, r := range l {
		all = append(all, r, ref(r.Client, r.Epoch, 0), ref(r.Client, r.Epoch, 9), ref(r.Client, r.Epoch, -1), ref(r.Client, r.Epoch, math.MinInt),
			ref(r.Client, r.Epoch+1, r.Req), ref(r.Client, r.Epoch-1, r.Req), ref((r.Client+1)%5, r.Epoch, r.Req), ref(r.Client+5, r.Epoch, r.Req), ref(r.Client-5, r.Epoch, r.Req))
	}
	return all
}

// The words of the chapter.

func right(n int, l []api.Ref) bool {
	clients := map[int]int{}
	for _, r := range l {
		clients[r.Client]++
		if !may(r) || clients[r.Client] == 2 {
			return false
		}
	}
	return slices.Contains(few(), n) && len(l) <= n-1
}

func ofClient(r api.Ref) func(api.Ref) bool {
	return func(x api.Ref) bool { return x.Client == r.Client }
}

func ofSession(r api.Ref) func(api.Ref) bool {
	return func(x api.Ref) bool { return x.Client == r.Client && x.Epoch == r.Epoch }
}

// answer is what a call answers: who waits, who goes through, and the error; where
// it has no such result, nothing.
type answer struct {
	l, through []api.Ref
	e          api.Errno
}

func wait(n int, l []api.Ref, r api.Ref) answer {
	switch {
	case !right(n, l), !may(r):
		return answer{l: l, e: api.ErrArg}
	case slices.ContainsFunc(l, ofClient(r)):
		return answer{l: l, e: api.ErrHeld}
	case len(l) == n-1:
		return answer{through: slices.Concat(l, refs(r))}
	}
	return answer{l: slices.Concat(l, refs(r))}
}

func drop(n int, l []api.Ref, r api.Ref) answer {
	if !right(n, l) {
		return answer{l: l}
	}
	return answer{l: slices.DeleteFunc(slices.Clone(l), ofSession(r))}
}

// The calls themselves.

func theWait(n int, l []api.Ref, r api.Ref) answer {
	m, through, err := gate.Wait(n, l, r)
	return answer{m, through, err}
}

func theDrop(n int, l []api.Ref, r api.Ref) answer {
	return answer{l: gate.Drop(n, l, r)}
}

// call is one of them, and what it should answer.
type call struct {
	name string
	does func(int, []api.Ref, api.Ref) answer
	says func(int, []api.Ref, api.Ref) answer
}

func calls() []call {
	return []call{{"Wait", theWait, wait}, {"Drop", theDrop, drop}}
}

// spoil puts other requests all over what an answer's list has, its spare room too.
func spoil(l []api.Ref) {
	all := l[:cap(l)]
	for i := range all {
		all[i] = ref(88, 88, 88)
	}
}

// is tells whether the answers are the same.
func (x answer) is(y answer) bool {
	return slices.Equal(x.l, y.l) && slices.Equal(x.through, y.through) && x.e == y.e
}

// asks holds what the call answers against what it should, with and without spare
// room, and asks it to leave what it is given as it is, spare room too, to hand out
// no memory of it, nor of another answer or list, and to keep none.
func asks(t *testing.T, x call, n int, l []api.Ref, r api.Ref, want answer) {
	t.Helper()
	given := roomy(l)
	for _, got := range []answer{x.does(n, given, r), x.does(n, slices.Clip(slices.Clone(l)), r)} {
		if !got.is(want) {
			t.Fatalf("%s of %d, %s, %v = %s, not %s", x.name, n, short(l), r, short(got), short(want))
		}
	}
	got, other, third := x.does(n, given, r), x.does(n, given, r), x.does(n, given, r)
	spoil(other.l)
	spoil(third.through)
	if !slices.Equal(given[:len(l)+3], slices.Concat(l, refs(marked, marked, marked))) {
		t.Fatalf("%s changes what it is given, or hands out memory of it: %d, %s, %v", x.name, n, short(l), r)
	}
	if !slices.Equal(other.through, want.through) || !slices.Equal(third.l, want.l) {
		t.Fatalf("%s hands out lists that share memory: %d, %s, %v", x.name, n, short(l), r)
	}
	for i := range given {
		given[i] = marked
	}
	if !got.is(want) {
		t.Fatalf("%s keeps what it is given, or hands out memory twice: %d, %s, %v", x.name, n, short(l), r)
	}
}

// known is what a call answers of known arguments.
type known struct {
	n    int
	l    []api.Ref
	r    api.Ref
	want answer
}

// same holds the call and its words against what is known.
func same(t *testing.T, x call, all []known) {
	t.Helper()
	for _, k := range all {
		asks(t, x, k.n, k.l, k.r, k.want)
		asks(t, x, k.n, k.l, k.r, x.says(k.n, k.l, k.r))
	}
}

// TestOfAny asks each call with all gates, and with lists and numbers that make none.
func TestOfAny(t *testing.T) {
	for _, x := range calls() {
		for _, l := range slices.Concat(lists(), wrong()) {
			for _, r := range askers(l[:min(len(l), 10)]) {
				for n := range 7 {
					asks(t, x, n, l, r, x.says(n, l, r))
				}
			}
		}
	}
}

// TestOfAnyNumber asks each call with numbers near all bounds.
func TestOfAnyNumber(t *testing.T) {
	for _, x := range calls() {
		for _, n := range numbers() {
			for _, l := range lists() {
				for _, r := range refs(a, e, of(2, 1), ref(0, 1, -1), ref(5, 1, 1)) {
					asks(t, x, n, l, r, x.says(n, l, r))
				}
			}
		}
	}
}

// P13.1

func TestRightKnown(t *testing.T) {
	all := []struct {
		n  int
		l  []api.Ref
		is bool
	}{
		{1, nil, true},
		{5, refs(), true},
		{2, refs(a), true},
		{5, refs(a), true},
		{3, refs(b, a), true},
		{5, refs(a, b, c, d), true},
		{5, refs(e, c, a, d), true},
		{2, refs(ref(0, 1, 0)), true},
		{2, refs(ref(4, math.MaxInt, math.MaxInt)), true},
		{3, refs(ref(2, 9, 0), ref(0, 1, 5)), true},
		{0, nil, false},
		{-1, nil, false},
		{6, nil, false},
		{6, refs(a), false},
		{math.MinInt, nil, false},
		{math.MaxInt, refs(a, b), false},
		{1, refs(a), false},
		{2, refs(a, b), false},
		{2, refs(a, b, c), false},
		{4, refs(a, b, c, d), false},
		{5, refs(a, b, c, d, e), false},
		{6, refs(a, b, c, d, e), false},
		{3, refs(a, a), false},
		{5, refs(a, b, a), false},
		{5, refs(a, ref(0, 1, 2)), false},
		{5, refs(a, ref(0, 2, 1)), false},
		{5, refs(b, a, c, ref(0, 2, 2)), false},
		{5, refs(ref(-1, 1, 1)), false},
		{5, refs(ref(5, 1, 1)), false},
		{5, refs(ref(0, 0, 1)), false},
		{5, refs(ref(0, 1, -1)), false},
		{2, refs(api.Ref{}), false},
		{3, refs(a, api.Ref{}), false},
		{3, refs(ref(0, 0, 1), b), false},
	}
	for _, k := range all {
		if got := gate.Right(k.n, k.l); got != k.is || right(k.n, k.l) != k.is {
			t.Errorf("Right(%d, %s) = %v", k.n, short(k.l), got)
		}
	}
}

func TestRightOfAny(t *testing.T) {
	for i, all := range [][][]api.Ref{lists(), wrong()} {
		for _, l := range all {
			given := roomy(l)
			for _, n := range numbers() {
				want := i == 0 && n > len(l) && n < 6
				if got := gate.Right(n, given); got != want || got != right(n, l) {
					t.Fatalf("Right(%d, %s) = %v", n, short(l), got)
				}
			}
			if !slices.Equal(given[:len(l)+3], slices.Concat(l, refs(marked, marked, marked))) {
				t.Fatalf("Right changes %s", short(l))
			}
		}
	}
}

// TestRightOfOne takes each request by itself.
func TestRightOfOne(t *testing.T) {
	edges := []int{math.MinInt, -1 << 32, -2, -1, 0, 1, 2, 4, 5, 6, 256, 1 << 32, math.MaxInt}
	for _, client := range edges {
		for _, epoch := range edges {
			for _, req := range edges {
				r := ref(client, epoch, req)
				for _, n := range numbers() {
					if got := gate.Right(n, refs(r)); got != (may(r) && n > 1 && n < 6) {
						t.Fatalf("Right of %d, %v = %v", n, r, got)
					}
				}
			}
		}
	}
}

// P13.2

func TestWaitKnown(t *testing.T) {
	same(t, calls()[0], []known{
		{2, nil, a, answer{l: refs(a)}},
		{2, refs(a), a, answer{l: refs(a), e: api.ErrHeld}},
		{2, refs(a), b, answer{through: refs(a, b)}},
		{2, refs(b), a, answer{through: refs(b, a)}},
		{1, nil, a, answer{through: refs(a)}},
		{1, refs(), ref(4, math.MaxInt, math.MaxInt), answer{through: refs(ref(4, math.MaxInt, math.MaxInt))}},
		{5, nil, ref(0, 1, 0), answer{l: refs(ref(0, 1, 0))}},
		{3, refs(a), b, answer{l: refs(a, b)}},
		{3, refs(b), a, answer{l: refs(b, a)}},
		{5, refs(e, d, c), a, answer{l: refs(e, d, c, a)}},
		{4, refs(e, d, c), a, answer{through: refs(e, d, c, a)}},
		{5, refs(a, b, c, d), e, answer{through: refs(a, b, c, d, e)}},
		{2, refs(a), ref(0, 1, 2), answer{l: refs(a), e: api.ErrHeld}},
		{2, refs(a), ref(0, 2, 1), answer{l: refs(a), e: api.ErrHeld}},
		{5, refs(a, b), b, answer{l: refs(a, b), e: api.ErrHeld}},
		{5, refs(a, b, c, d), ref(2, 7, 0), answer{l: refs(a, b, c, d), e: api.ErrHeld}},
		{6, nil, a, answer{e: api.ErrArg}},
		{0, nil, a, answer{e: api.ErrArg}},
		{-1, nil, a, answer{e: api.ErrArg}},
		{6, refs(a), a, answer{l: refs(a), e: api.ErrArg}},
		{6, refs(a, b, c, d, e), b, answer{l: refs(a, b, c, d, e), e: api.ErrArg}},
		{1, refs(a), b, answer{l: refs(a), e: api.ErrArg}},
		{1, refs(a), a, answer{l: refs(a), e: api.ErrArg}},
		{2, refs(a, b), c, answer{l: refs(a, b), e: api.ErrArg}},
		{2, refs(a, b, c), d, answer{l: refs(a, b, c), e: api.ErrArg}},
		{5, refs(a, b, c, d, e), a, answer{l: refs(a, b, c, d, e), e: api.ErrArg}},
		{1, nil, api.Ref{}, answer{e: api.ErrArg}},
		{2, nil, ref(5, 1, 1), answer{e: api.ErrArg}},
		{2, nil, ref(-1, 1, 1), answer{e: api.ErrArg}},
		{2, refs(a), ref(1, 1, -1), answer{l: refs(a), e: api.ErrArg}},
		{2, refs(a), ref(0, 1, -1), answer{l: refs(a), e: api.ErrArg}},
		{3, refs(a), ref(0, 0, 1), answer{l: refs(a), e: api.ErrArg}},
		{5, refs(a, a), b, answer{l: refs(a, a), e: api.ErrArg}},
		{5, refs(a, a), a, answer{l: refs(a, a), e: api.ErrArg}},
		{2, refs(api.Ref{}), a, answer{l: refs(api.Ref{}), e: api.ErrArg}},
		{3, refs(b, ref(0, 1, -1)), b, answer{l: refs(b, ref(0, 1, -1)), e: api.ErrArg}},
	})
}

// P13.3

func TestDropKnown(t *testing.T) {
	same(t, calls()[1], []known{
		{2, refs(a), a, answer{}},
		{2, refs(a), b, answer{l: refs(a)}},
		{1, nil, a, answer{}},
		{5, refs(), api.Ref{}, answer{}},
		{4, refs(a, b, c), a, answer{l: refs(b, c)}},
		{4, refs(a, b, c), b, answer{l: refs(a, c)}},
		{4, refs(a, b, c), c, answer{l: refs(a, b)}},
		{5, refs(a, b, c), d, answer{l: refs(a, b, c)}},
		{5, refs(e, d, c, b), e, answer{l: refs(d, c, b)}},
		{5, refs(e, d, c, b), b, answer{l: refs(e, d, c)}},
		{3, refs(a, b), ref(0, 1, 9), answer{l: refs(b)}},
		{3, refs(a, b), ref(0, 1, 0), answer{l: refs(b)}},
		{3, refs(a, b), ref(0, 1, -1), answer{l: refs(b)}},
		{3, refs(a, b), ref(1, 1, math.MinInt), answer{l: refs(a)}},
		{3, refs(ref(3, 5, 2), b), ref(3, 5, 3), answer{l: refs(b)}},
		{3, refs(a, b), ref(0, 2, 1), answer{l: refs(a, b)}},
		{3, refs(a, b), ref(0, 0, 1), answer{l: refs(a, b)}},
		{3, refs(ref(0, 2, 1), b), a, answer{l: refs(ref(0, 2, 1), b)}},
		{3, refs(a, b), api.Ref{}, answer{l: refs(a, b)}},
		{3, refs(a, b), ref(-5, 1, 1), answer{l: refs(a, b)}},
		{1, refs(a), a, answer{l: refs(a)}},
		{2, refs(a, b), a, answer{l: refs(a, b)}},
		{0, refs(a), a, answer{l: refs(a)}},
		{6, refs(a), a, answer{l: refs(a)}},
		{-1, refs(a, b), b, answer{l: refs(a, b)}},
		{5, refs(a, b, c, d, e), a, answer{l: refs(a, b, c, d, e)}},
		{5, refs(a, ref(0, 2, 1)), a, answer{l: refs(a, ref(0, 2, 1))}},
		{5, refs(a, b, a), a, answer{l: refs(a, b, a)}},
		{5, refs(a, b, a), b, answer{l: refs(a, b, a)}},
		{5, refs(api.Ref{}, b), api.Ref{}, answer{l: refs(api.Ref{}, b)}},
		{5, refs(a, ref(1, 1, -1)), a, answer{l: refs(a, ref(1, 1, -1))}},
	})
}

// P13.4

// asker is a client among calls: its session, how many requests it has made, and
// of the one that waits, if there is such: which it is, and when it came.
type asker struct {
	epoch, req int
	own        api.Ref
	since      int
}

// run is a gate among calls: for how many it is, who asks, and how often somebody
// has come.
type run struct {
	n     int
	l     []api.Ref
	who   [5]asker
	count int
}

func newRun(n int) *run {
	r := &run{n: n}
	for client := range r.who {
		r.who[client].epoch = 1
	}
	return r
}

// next is the one that waits and came first of those that came behind the time
// since, if there is such.
func (r *run) next(since int) (asker, bool) {
	first := asker{}
	for _, x := range r.who {
		if x.since > since && (first.since == 0 || x.since < first.since) {
			first = x
		}
	}
	return first, first.since > 0
}

// waiting are the requests that wait, in the order in which they came.
func (r *run) waiting() []api.Ref {
	l := refs()
	for x, some := r.next(0); some; x, some = r.next(x.since) {
		l = append(l, x.own)
	}
	return l
}

// wait lets the client come to the gate.
func (r *run) wait(t *testing.T, client int) {
	t.Helper()
	x := &r.who[client]
	x.req++
	own := ref(client, x.epoch, x.req)
	want := api.OK
	if x.since > 0 {
		want = api.ErrHeld
	} else {
		r.count++
		x.own, x.since = own, r.count
	}
	l, through, err := gate.Wait(r.n, r.l, own)
	if err != want {
		t.Fatalf("Wait of %d, %s, %v = %d", r.n, short(r.l), own, err)
	}
	all := refs()
	if err == api.OK && len(r.waiting()) == r.n {
		all = r.waiting()
		r.opens()
	}
	if !slices.Equal(through, all) {
		t.Fatalf("%s go through at a gate for %d, not %s", short(through), r.n, short(all))
	}
	r.stands(t, l)
}

// opens lets nobody wait any more.
func (r *run) opens() {
	for client := range r.who {
		r.who[client].since = 0
	}
}

// drop ends the client's session.
func (r *run) drop(t *testing.T, client int) {
	t.Helper()
	x := &r.who[client]
	x.req++
	own := ref(client, x.epoch, x.req)
	if x.own.Epoch == x.epoch {
		x.since = 0
	}
	r.stands(t, gate.Drop(r.n, r.l, own))
}

// begins lets the client have another session, while the elder one's request may
// wait still.
func (r *run) begins(client int) { r.who[client].epoch++; r.who[client].req = 0 }

// stands holds who waits against who should.
func (r *run) stands(t *testing.T, l []api.Ref) {
	t.Helper()
	if want := r.waiting(); !slices.Equal(l, want) || len(l) >= r.n || !gate.Right(r.n, l) {
		t.Fatalf("%s wait at a gate for %d, not %s", short(l), r.n, short(want))
	}
	r.l = l
}

// does is one of three things that the client may do.
func (r *run) does(t *testing.T, what, client int) {
	t.Helper()
	switch what {
	case 0:
		r.wait(t, client)
	case 1:
		r.drop(t, client)
	default:
		r.begins(client)
	}
}

// TestAllTogether: each row of clients goes through at once, when the last of them
// comes, and not ahead of that; so again and again at the same gate.
func TestAllTogether(t *testing.T) {
	for _, n := range few() {
		r := newRun(n)
		for _, row := range rows() {
			if len(row) != n {
				continue
			}
			for i, client := range row {
				if len(r.l) != i {
					t.Fatalf("%s wait, though %d have come", short(r.l), i)
				}
				r.wait(t, client)
			}
			if len(r.l) != 0 {
				t.Fatalf("%s wait at a gate that has opened", short(r.l))
			}
		}
	}
}

// TestAllShortRuns takes all rows of calls of three clients.
func TestAllShortRuns(t *testing.T) {
	const each, length = 9, 5
	all := 1
	for range length {
		all *= each
	}
	for n := range 4 {
		for row := range all {
			r := newRun(n + 1)
			for rest, i := row, 0; i < length; rest, i = rest/each, i+1 {
				r.does(t, rest%each/3, rest%3)
			}
		}
	}
}

// TestRunsAtWill takes calls of all clients, who begin sessions anew too, now and
// then while requests of the last one still wait.
func TestRunsAtWill(t *testing.T) {
	x := rand.New(rand.NewSource(13))
	for _, n := range few() {
		for range 100 {
			r := newRun(n)
			for range 200 {
				r.does(t, []int{0, 0, 0, 0, 0, 0, 0, 0, 1, 2}[x.Intn(10)], x.Intn(5))
			}
		}
	}
}

// TestRefusedStays: what is refused leaves the gate as it was, for what comes
// behind it too.
func TestRefusedStays(t *testing.T) {
	for _, row := range rows() {
		r := newRun(5)
		for _, client := range row {
			r.wait(t, client)
			for _, x := range bad() {
				l, through, err := gate.Wait(5, r.l, x)
				if len(through) != 0 || err != api.ErrArg {
					t.Fatalf("%v at %s: %v, %d", x, short(r.l), through, err)
				}
				r.stands(t, l)
				r.stands(t, gate.Drop(6, l, ref(client, 1, 1)))
				r.stands(t, gate.Drop(5, l, ref(x.Client, 0, x.Req)))
			}
		}
	}
}

func ExampleWait() {
	l, through, err := gate.Wait(2, nil, a)
	fmt.Println(l, through, err)
	_, _, err = gate.Wait(2, l, a)
	fmt.Println(err)
	l, through, err = gate.Wait(2, l, b)
	fmt.Println(l, through, err)
	l, through, err = gate.Wait(2, l, a)
	fmt.Println(l, through, err)
	// Output:
	// [{0 1 1}] [] 0
	// 11
	// [] [{0 1 1} {1 1 1}] 0
	// [{0 1 1}] [] 0
}

func ExampleWait_bounds() {
	l, through, err := gate.Wait(1, nil, a)
	fmt.Println(l, through, err)
	l, through, err = gate.Wait(6, nil, a)
	fmt.Println(l, through, err)
	// Output:
	// [] [{0 1 1}] 0
	// [] [] 1
}

func ExampleDrop() {
	fmt.Println(gate.Drop(3, refs(a, b), ref(0, 1, 7)))
	fmt.Println(gate.Drop(3, refs(a, b), ref(0, 2, 0)))
	// Output:
	// [{1 1 1}]
	// [{0 1 1} {1 1 1}]
}
