package load_test

import (
	"math/rand"
	"testing"

	"phalanx/api"
	"phalanx/load"
)

// P19.4

// run is a load among its pieces: the bytes that were cut, and how many have come.
type run struct {
	s    string
	l    api.Load
	came []bool
}

// started is a run of which nothing has come.
func started(view int, s string) *run {
	return &run{s: s, l: load.New(view), came: make([]bool, len(parts(s)))}
}

// take lets a piece come, and asks that it be taken once, and that the load be whole
// when each has come, and not ahead of that.
func (r *run) take(t *testing.T, p api.Piece) {
	t.Helper()
	want := api.OK
	if r.came[p.At] {
		want = api.ErrTwice
	}
	l, e := load.Take(r.l, p)
	if e != want {
		t.Fatalf("piece %d of %d: error %d, not %d", p.At, p.Total, e, want)
	}
	r.l, r.came[p.At] = l, true
	r.holds(t)
}

// holds asks that the load tell which piece is the first that hasn't come, and the
// bytes, if all have.
func (r *run) holds(t *testing.T) {
	t.Helper()
	first, want, wantE := -1, r.s, api.OK
	for i, is := range r.came {
		if !is {
			first, want, wantE = i, "", api.ErrNone
			break
		}
	}
	if at := load.Missing(r.l); at != first {
		t.Fatalf("of %d bytes piece %d is the first that is missing, not %d", len(r.s), first, at)
	}
	if s, e := load.Whole(r.l); s != want || e != wantE {
		t.Fatalf("of %d bytes with piece %d missing: %.100q, error %d", len(r.s), first, s, e)
	}
}

// orders are all orders of the numbers below n.
func orders(n int) [][]int {
	if n == 0 {
		return [][]int{nil}
	}
	l := [][]int{}
	for _, o := range orders(n - 1) {
		for at := range n {
			m := append([]int{}, o[:at]...)
			l = append(l, append(append(m, n-1), o[at:]...))
		}
	}
	return l
}

// TestAllOrders: the pieces of one to five, in each order.
func TestAllOrders(t *testing.T) {
	for _, length := range []int{0, 1, 64, 65, 128, 129, 192, 200, 256, 257, 300, 320} {
		s := bytesAt(length)
		l := cutAll(5, s)
		for _, order := range orders(len(l)) {
			r := started(5, s)
			for _, i := range order {
				r.take(t, l[i])
			}
		}
	}
}

// TestAllShortRows: all rows of six of three pieces, each of which may come often or
// never.
func TestAllShortRows(t *testing.T) {
	s := bytesAt(150)
	l := cutAll(-2, s)
	for n := range 3 * 3 * 3 * 3 * 3 * 3 {
		r := started(-2, s)
		for range 6 {
			r.take(t, l[n%3])
			n /= 3
		}
	}
}

// TestRunsAtWill: pieces by several donors come in any order, some of them often;
// between them pieces of other views and of other bytes, which change nothing.
func TestRunsAtWill(t *testing.T) {
	x := rand.New(rand.NewSource(19))
	for _, length := range []int{0, 64, 65, 400, 2000, 16321, 16383, 16384} {
		for range 5 {
			view := x.Intn(1000) - 500
			s := bytesAt(length)
			l, late, others := cutAll(view, s), cutAll(view+1, s), cutAll(view, s[length/2:]+"other")
			r := started(view, s)
			r.holds(t)
			r.take(t, l[x.Intn(len(l))])
			for range 3 * len(l) {
				r.refuses(t, late[x.Intn(len(late))])
				r.refuses(t, others[x.Intn(len(others))])
				r.take(t, l[x.Intn(len(l))])
			}
			for _, i := range x.Perm(len(l)) {
				r.take(t, l[i])
			}
		}
	}
}

// refuses asks that a piece of another snapshot be none of this one's.
func (r *run) refuses(t *testing.T, p api.Piece) {
	t.Helper()
	l, e := load.Take(r.l, p)
	if e != api.ErrUnlike || !same(l, r.l) {
		t.Fatalf("a piece of another snapshot: error %d", e)
	}
	r.l = l
}

// TestUntilNoneIsMissing asks for what is missing till nothing is, as a joiner does.
func TestUntilNoneIsMissing(t *testing.T) {
	for _, s := range texts() {
		if load.Count(s) > 256 {
			continue
		}
		l, asked := load.New(7), 0
		for at := load.Missing(l); at >= 0; at = load.Missing(l) {
			p, e := load.Cut(7, s, at)
			if e != api.OK || asked > 256 {
				t.Fatalf("%d bytes: piece %d, asked for %d ahead of it: error %d", len(s), at, asked, e)
			}
			l, _ = load.Take(l, p)
			asked++
		}
		if got, e := load.Whole(l); got != s || e != api.OK || asked != load.Count(s) {
			t.Fatalf("%d bytes behind %d pieces: %d, error %d", len(s), asked, len(got), e)
		}
	}
}

// turned is data with the four bytes of d mixed in, from at on, so far as there are
// such.
func turned(data string, at int, d uint32) string {
	b := []byte(data)
	for i := range 4 {
		if at+i < len(b) {
			b[at+i] ^= byte(d >> (8 * i))
		}
	}
	return string(b)
}

// neverWhole asks that a load with a piece that was turned isn't whole, in whatever
// order the pieces come.
func neverWhole(t *testing.T, l []api.Piece, spoilt api.Piece, order []int) {
	t.Helper()
	m := load.New(l[0].N)
	for _, i := range order {
		p := l[i]
		if i == spoilt.At {
			p = spoilt
		}
		m, _ = load.Take(m, p)
		if s, e := load.Whole(m); e != api.ErrNone && e != api.ErrSum || s != "" {
			t.Fatalf("with the piece %s: %.100q, error %d", short(spoilt), s, e)
		}
	}
	for _, p := range l {
		m, _ = load.Take(m, p)
	}
	if s, e := load.Whole(m); e != api.ErrSum || s != "" || load.Missing(m) != -1 {
		t.Fatalf("with the piece %s, and all: %.100q, error %d", short(spoilt), s, e)
	}
}

// TestTurned turns some of each four neighbouring bytes of each piece.
func TestTurned(t *testing.T) {
	x := rand.New(rand.NewSource(64))
	for _, length := range []int{1, 2, 3, 4, 5, 64, 65, 67, 68, 128, 150} {
		s := bytesAt(length)
		l := cutAll(2, s)
		for _, p := range l {
			for at := range p.Data {
				for range 12 {
					spoilt := p
					spoilt.Data = turned(p.Data, at, x.Uint32()|1<<x.Intn(8))
					neverWhole(t, l, spoilt, x.Perm(len(l)))
				}
				for bit := range 8 {
					spoilt := p
					spoilt.Data = turned(p.Data, at, 1<<bit)
					neverWhole(t, l, spoilt, x.Perm(len(l)))
				}
			}
		}
	}
}

// TestTurnedOfMany turns bytes of the greatest snapshot that there may be.
func TestTurnedOfMany(t *testing.T) {
	x := rand.New(rand.NewSource(256))
	l := cutAll(2, bytesAt(16384))
	for range 60 {
		spoilt := l[x.Intn(len(l))]
		spoilt.Data = turned(spoilt.Data, x.Intn(64), x.Uint32()|1<<x.Intn(8))
		m := load.New(2)
		for _, i := range x.Perm(len(l)) {
			p := l[i]
			if i == spoilt.At {
				p = spoilt
			}
			m, _ = load.Take(m, p)
		}
		if s, e := load.Whole(m); e != api.ErrSum || s != "" {
			t.Fatalf("with the piece %s: %d bytes, error %d", short(spoilt), len(s), e)
		}
	}
}
