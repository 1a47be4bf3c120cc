package load_test

import (
	"fmt"
	"math"
	"strings"
	"testing"

	"phalanx/api"
	"phalanx/load"
)

// P19.1

func TestCountKnown(t *testing.T) {
	known := []struct{ length, count int }{
		{0, 1}, {1, 1}, {63, 1}, {64, 1}, {65, 2}, {127, 2}, {128, 2}, {129, 3}, {192, 3}, {193, 4},
		{16320, 255}, {16321, 256}, {16384, 256}, {16385, 257}, {16448, 257}, {16449, 258}, {1 << 20, 1 << 14}, {1<<20 + 1, 1<<14 + 1},
	}
	for _, k := range known {
		if got := load.Count(strings.Repeat("a", k.length)); got != k.count {
			t.Errorf("Count of %d bytes = %d, not %d", k.length, got, k.count)
		}
	}
}

func TestCountOfEachLength(t *testing.T) {
	s := strings.Repeat("é", 10000)
	count := 1
	for length := range 17000 {
		if length > 64*count {
			count++
		}
		if got := load.Count(s[:length]); got != count {
			t.Fatalf("Count of %d bytes = %d, not %d", length, got, count)
		}
	}
}

func TestCutKnown(t *testing.T) {
	a, b, c := strings.Repeat("a", 64), strings.Repeat("b", 64), strings.Repeat("c", 16384)
	known := []struct {
		s    string
		at   int
		want api.Piece
		e    api.Errno
	}{
		{"", 0, api.Piece{N: 3, At: 0, Total: 1}, api.OK},
		{"", 1, api.Piece{}, api.ErrNone},
		{"", -1, api.Piece{}, api.ErrNone},
		{"123456789", 0, api.Piece{N: 3, At: 0, Total: 1, Sum: 0xcbf43926, Data: "123456789"}, api.OK},
		{"123456789", 1, api.Piece{}, api.ErrNone},
		{a, 0, api.Piece{N: 3, At: 0, Total: 1, Sum: sum(a), Data: a}, api.OK},
		{a, 1, api.Piece{}, api.ErrNone},
		{a + "é", 0, api.Piece{N: 3, At: 0, Total: 2, Sum: sum(a + "é"), Data: a}, api.OK},
		{a + "é", 1, api.Piece{N: 3, At: 1, Total: 2, Sum: sum(a + "é"), Data: "é"}, api.OK},
		{a + "é", 2, api.Piece{}, api.ErrNone},
		{a + b, 1, api.Piece{N: 3, At: 1, Total: 2, Sum: sum(a + b), Data: b}, api.OK},
		{a + b, 2, api.Piece{}, api.ErrNone},
		{a + b, math.MinInt, api.Piece{}, api.ErrNone},
		{a + b, math.MaxInt, api.Piece{}, api.ErrNone},
		{a + b, 1 << 58, api.Piece{}, api.ErrNone},
		{a + b + "c", 2, api.Piece{N: 3, At: 2, Total: 3, Sum: sum(a + b + "c"), Data: "c"}, api.OK},
		{c, 255, api.Piece{N: 3, At: 255, Total: 256, Sum: sum(c), Data: c[:64]}, api.OK},
		{c, 256, api.Piece{}, api.ErrNone},
		{c[1:], 255, api.Piece{N: 3, At: 255, Total: 256, Sum: sum(c[1:]), Data: c[:63]}, api.OK},
		{c + "c", 0, api.Piece{}, api.ErrLong},
		{c + "c", 256, api.Piece{}, api.ErrLong},
		{c + "c", -1, api.Piece{}, api.ErrLong},
		{c + "c", 1000, api.Piece{}, api.ErrLong},
		{c + c, 0, api.Piece{}, api.ErrLong},
	}
	for _, k := range known {
		if got, e := load.Cut(3, k.s, k.at); got != k.want || e != k.e {
			t.Errorf("Cut(3, %.10q of %d bytes, %d) = %s, %d, not %s, %d", k.s, len(k.s), k.at, short(got), e, short(k.want), k.e)
		}
	}
}

func TestCutOfAny(t *testing.T) {
	for i, s := range texts() {
		count := len(parts(s))
		for j, at := range append(numbers(), count-2, count-1, count, count+1) {
			view := numbers()[(i+3*j)%len(numbers())]
			got, e := load.Cut(view, s, at)
			if want, wantE := cut(view, s, at); got != want || e != wantE {
				t.Fatalf("Cut(%d, %.10q of %d bytes, %d) = %s, %d, not %s, %d", view, s, len(s), at, short(got), e, short(want), wantE)
			}
		}
	}
}

// TestCutOfEach takes each piece of the bytes: those may be, and there are no
// others.
func TestCutOfEach(t *testing.T) {
	for _, s := range texts() {
		l := pieces(9, s)
		if len(l) > 256 {
			if got := cutAll(9, s); len(got) > 0 {
				t.Fatalf("%d bytes have %d pieces", len(s), len(got))
			}
			continue
		}
		for i, p := range l {
			got, e := load.Cut(9, s, i)
			if got != p || e != api.OK || !load.Right(got) {
				t.Fatalf("Cut(9, %.10q of %d bytes, %d) = %s, %d", s, len(s), i, short(got), e)
			}
		}
	}
}

// TestCutOfEachLength: the bytes of all pieces are those that were cut.
func TestCutOfEachLength(t *testing.T) {
	all := bytesAt(700)
	for length := range len(all) {
		s, got := all[:length], ""
		for i, p := range cutAll(1, s) {
			if p.At != i || p.Total != load.Count(s) || p.Sum != sum(s) || p.N != 1 || !load.Right(p) {
				t.Fatalf("piece %d of %d bytes: %s", i, length, short(p))
			}
			got += p.Data
		}
		if got != s {
			t.Fatalf("the pieces of %d bytes have %d", length, len(got))
		}
	}
}

func TestRightKnown(t *testing.T) {
	known := []struct {
		at, total, length int
		is                bool
	}{
		{0, 1, 0, true}, {0, 1, 1, true}, {0, 1, 63, true}, {0, 1, 64, true}, {0, 1, 65, false},
		{0, 2, 64, true}, {0, 2, 63, false}, {0, 2, 65, false}, {0, 2, 0, false}, {0, 2, 1, false},
		{1, 2, 0, false}, {1, 2, 1, true}, {1, 2, 63, true}, {1, 2, 64, true}, {1, 2, 65, false},
		{1, 3, 64, true}, {1, 3, 63, false}, {1, 3, 0, false}, {2, 3, 1, true}, {2, 3, 0, false},
		{1, 1, 64, false}, {1, 1, 0, false}, {2, 2, 64, false}, {2, 2, 1, false}, {3, 2, 64, false},
		{-1, 1, 0, false}, {-1, 2, 64, false}, {math.MinInt, 2, 64, false}, {math.MaxInt, 2, 64, false},
		{0, 0, 0, false}, {0, 0, 64, false}, {-1, 0, 0, false}, {-1, 0, 64, false}, {0, -1, 64, false}, {-2, -1, 64, false}, {-3, -1, 64, false},
		{0, 256, 64, true}, {254, 256, 64, true}, {254, 256, 63, false}, {255, 256, 1, true}, {255, 256, 64, true}, {255, 256, 0, false}, {256, 256, 64, false},
		{0, 257, 64, false}, {255, 257, 64, false}, {256, 257, 64, false}, {256, 257, 1, false},
		{0, math.MinInt, 64, false}, {math.MaxInt, math.MinInt, 64, false}, {0, math.MaxInt, 64, false}, {math.MaxInt - 1, math.MaxInt, 1, false},
		{0, 1<<32 + 1, 64, false}, {0, 1<<32 + 2, 64, false},
	}
	for _, k := range known {
		p := api.Piece{N: 3, At: k.at, Total: k.total, Data: strings.Repeat("a", k.length)}
		if got := load.Right(p); got != k.is {
			t.Errorf("Right of number %d of %d with %d bytes = %v", k.at, k.total, k.length, got)
		}
	}
}

// TestRightOfAny: neither the view nor the sum matters, nor which bytes there are.
func TestRightOfAny(t *testing.T) {
	for _, p := range anyPieces(numbers(), []uint32{0, 1, 1 << 31, math.MaxUint32}) {
		for _, b := range []string{"p", "\x00", "\xff"} {
			p.Data = strings.Repeat(b, len(p.Data))
			if got := load.Right(p); got != right(p) {
				t.Fatalf("Right(%s) = %v", short(p), got)
			}
		}
	}
}

// P19.2

func TestNew(t *testing.T) {
	for _, view := range numbers() {
		if got := load.New(view); !same(got, api.Load{N: view}) {
			t.Errorf("New(%d) = %s", view, short(got))
		}
	}
}

// asks holds Take of l and p against what it should answer, and asks it to leave
// what it is given as it is, spare room too, to hand out no memory of it, nor of
// another answer, and to keep none.
func asks(t *testing.T, l api.Load, p api.Piece, want api.Load, wantE api.Errno) {
	t.Helper()
	l, want = clone(l), clone(want)
	given := roomy(l)
	was := clone(wide(given))
	got, e := load.Take(given, p)
	if !same(got, want) || e != wantE {
		t.Fatalf("Take(%s; %s) = %s, %d, not %s, %d", short(l), short(p), short(got), e, short(want), wantE)
	}
	if other, e := load.Take(clone(l), p); !same(other, want) || e != wantE {
		t.Fatalf("Take(%s; %s) hangs on spare room: %s, %d", short(l), short(p), short(other), e)
	}
	other, _ := load.Take(given, p)
	spoil(other)
	if !same(wide(given), was) {
		t.Fatalf("Take(%s; %s) changes what it is given, or hands out memory of it", short(l), short(p))
	}
	spoil(given)
	if !same(got, want) {
		t.Fatalf("Take(%s; %s) keeps what it is given, or hands out memory twice", short(l), short(p))
	}
}

// knownTake is a load and a piece, and what Take answers; beside an error it is the
// load as it was.
type knownTake struct {
	l    api.Load
	p    api.Piece
	want api.Load
	e    api.Errno
}

// knownTakes are loads of 130 bytes, asked by pieces of these and of others.
func knownTakes() []knownTake {
	s, other := bytesAt(130), bytesAt(129)
	p, q := pieces(3, s), pieces(3, other)
	next, longer, spoilt := pieces(4, s)[0], p[0], p[0]
	longer.Data += "x"
	spoilt.Data = "x" + spoilt.Data[1:]
	none := api.Load{N: 3}
	odd := api.Load{N: 3, Sum: 7}
	return []knownTake{
		{none, p[0], having(3, s, 0), api.OK},
		{none, p[1], having(3, s, 1), api.OK},
		{none, p[2], having(3, s, 2), api.OK},
		{odd, p[2], having(3, s, 2), api.OK},
		{none, pieces(3, "")[0], having(3, "", 0), api.OK},
		{having(3, s, 0), p[2], having(3, s, 0, 2), api.OK},
		{having(3, s, 0, 2), p[1], having(3, s, 0, 1, 2), api.OK},
		{having(3, s), p[1], having(3, s, 1), api.OK},
		{having(3, s, 1, 2), p[0], having(3, s, 0, 1, 2), api.OK},

		{having(3, s, 0), p[0], api.Load{}, api.ErrTwice},
		{having(3, s, 0), spoilt, api.Load{}, api.ErrTwice},
		{having(3, s, 0, 1, 2), p[2], api.Load{}, api.ErrTwice},
		{having(3, "", 0), pieces(3, "")[0], api.Load{}, api.ErrTwice},

		{none, next, api.Load{}, api.ErrUnlike},
		{having(3, s, 0), next, api.Load{}, api.ErrUnlike},
		{having(3, s, 1), next, api.Load{}, api.ErrUnlike},
		{having(3, s, 0), q[0], api.Load{}, api.ErrUnlike},
		{having(3, s, 0), q[1], api.Load{}, api.ErrUnlike},
		{having(3, s), q[1], api.Load{}, api.ErrUnlike},
		{having(3, s, 0), api.Piece{N: 3, At: 0, Total: 4, Sum: sum(s), Data: s[:64]}, api.Load{}, api.ErrUnlike},
		{having(3, s, 0), api.Piece{N: 3, At: 1, Total: 2, Sum: sum(s), Data: s[:64]}, api.Load{}, api.ErrUnlike},
		{having(3, s, 0), api.Piece{N: 3, At: 255, Total: 256, Sum: sum(s), Data: s[:64]}, api.Load{}, api.ErrUnlike},

		{none, longer, api.Load{}, api.ErrArg},
		{none, api.Piece{N: 3}, api.Load{}, api.ErrArg},
		{none, api.Piece{N: 4, Total: 257, Data: s[:64]}, api.Load{}, api.ErrArg},
		{having(3, s, 0), longer, api.Load{}, api.ErrArg},
		{having(3, s, 0), api.Piece{N: 4, At: 3, Total: 3, Sum: sum(s), Data: "a"}, api.Load{}, api.ErrArg},
		{having(3, s, 0), api.Piece{N: 3, At: -1, Total: 3, Sum: sum(s), Data: s[:64]}, api.Load{}, api.ErrArg},
		{lists(3, 3, 2), p[0], api.Load{}, api.ErrArg},
		{lists(3, 2, 3), next, api.Load{}, api.ErrArg},
		{lists(0, 1, 1), pieces(3, "")[0], api.Load{}, api.ErrArg},
		{lists(257, 257, 257), p[0], api.Load{}, api.ErrArg},
		{lists(-1, 0, 0), p[0], api.Load{}, api.ErrArg},
	}
}

func TestTakeKnown(t *testing.T) {
	for _, k := range knownTakes() {
		if k.e != api.OK {
			k.want = k.l
		}
		asks(t, k.l, k.p, k.want, k.e)
	}
}

func TestTakeOfAny(t *testing.T) {
	for _, l := range append(goodLoads(), badLoads()...) {
		for i, p := range anyPieces([]int{l.N, l.N, l.N, l.N + 1}, []uint32{l.Sum, l.Sum, l.Sum ^ 1<<31}) {
			if right(p) || i%5 == 0 {
				want, e := take(l, p)
				asks(t, l, p, want, e)
			}
		}
	}
}

// TestTakeOfEach takes each piece of l's own snapshot, and each such that is off in
// one thing, or in two.
func TestTakeOfEach(t *testing.T) {
	for _, l := range append(goodLoads(), badLoads()...) {
		for i := range min(max(l.Total, 1), 256) {
			p := api.Piece{N: l.N, At: i, Total: max(l.Total, 1), Sum: l.Sum, Data: bytesAt(64)}
			for off := range 1 << 5 {
				q := p
				if off&1 != 0 {
					q.N--
				}
				if off&2 != 0 {
					q.Total++
				}
				if off&4 != 0 {
					q.Sum++
				}
				if off&8 != 0 {
					q.Data += "x"
				}
				if off&16 != 0 {
					q.At++
				}
				if i < 3 || off == i%32 || i > 253 {
					want, e := take(l, q)
					asks(t, l, q, want, e)
				}
			}
		}
	}
}

// P19.3

// looks holds Missing and Whole of l against what they should answer, and asks them
// to leave it as it is.
func looks(t *testing.T, l api.Load, wantAt int, want string, wantE api.Errno) {
	t.Helper()
	given := roomy(l)
	was := clone(wide(given))
	if at := load.Missing(given); at != wantAt {
		t.Fatalf("Missing(%s) = %d, not %d", short(l), at, wantAt)
	}
	if s, e := load.Whole(given); s != want || e != wantE {
		t.Fatalf("Whole(%s) = %.100q, %d, not %.100q, %d", short(l), s, e, want, wantE)
	}
	if !same(wide(given), was) {
		t.Fatalf("Missing or Whole changes what it is given: %s", short(l))
	}
}

func TestMissingAndWholeKnown(t *testing.T) {
	s, full := bytesAt(130), bytesAt(16384)
	spoilt, turned := having(3, s, 0, 1, 2), having(3, s, 0, 1, 2)
	spoilt.Sum++
	turned.Data[0], turned.Data[1] = turned.Data[1], turned.Data[0]
	nothing := having(3, "", 0)
	nothing.Sum = 1
	known := []struct {
		l    api.Load
		at   int
		want string
		e    api.Errno
	}{
		{api.Load{}, 0, "", api.ErrNone},
		{api.Load{N: 3}, 0, "", api.ErrNone},
		{api.Load{N: 3, Sum: 7}, 0, "", api.ErrNone},
		{having(3, ""), 0, "", api.ErrNone},
		{having(3, "", 0), -1, "", api.OK},
		{having(3, "a", 0), -1, "a", api.OK},
		{having(3, s), 0, "", api.ErrNone},
		{having(3, s, 0), 1, "", api.ErrNone},
		{having(3, s, 1), 0, "", api.ErrNone},
		{having(3, s, 2), 0, "", api.ErrNone},
		{having(3, s, 0, 1), 2, "", api.ErrNone},
		{having(3, s, 0, 2), 1, "", api.ErrNone},
		{having(3, s, 1, 2), 0, "", api.ErrNone},
		{having(3, s, 0, 1, 2), -1, s, api.OK},
		{having(3, full, upTo(255, 1)...), 255, "", api.ErrNone},
		{having(3, full, upTo(256, 2)...), 1, "", api.ErrNone},
		{having(3, full, upTo(256, 1)...), -1, full, api.OK},
		{spoilt, -1, "", api.ErrSum},
		{turned, -1, "", api.ErrSum},
		{nothing, -1, "", api.ErrSum},
		{lists(-1, 0, 0), 0, "", api.ErrNone},
		{lists(3, 2, 3), 0, "", api.ErrNone},
		{lists(3, 3, 2), 0, "", api.ErrNone},
		{lists(0, 1, 1), 0, "", api.ErrNone},
		{lists(257, 257, 257), 0, "", api.ErrNone},
	}
	for _, k := range known {
		looks(t, k.l, k.at, k.want, k.e)
	}
}

func TestMissingAndWholeOfAny(t *testing.T) {
	for _, l := range append(goodLoads(), badLoads()...) {
		s, e := whole(l)
		looks(t, l, missing(l), s, e)
		l.Sum ^= 1 << 7
		s, e = whole(l)
		looks(t, l, missing(l), s, e)
	}
}

// TestMissingOfEach: of pieces that are missing the first one is told, wherever it
// is, and whichever others are missing.
func TestMissingOfEach(t *testing.T) {
	for _, s := range []string{bytesAt(64), bytesAt(65), bytesAt(500), bytesAt(16384)} {
		count := len(parts(s))
		for i := range count {
			from := append(upTo(i, 1), upTo(count, 1)[i+1:]...)
			looks(t, having(3, s, upTo(i, 1)...), i, "", api.ErrNone)
			looks(t, having(3, s, from...), i, "", api.ErrNone)
		}
	}
}

func ExampleCut() {
	s := strings.Repeat("a", 64) + "bc"
	fmt.Println(load.Count(s))
	p, e := load.Cut(3, s, 1)
	fmt.Println(p.N, p.At, p.Total, p.Data, e)
	p, e = load.Cut(3, s, 2)
	fmt.Println(p == api.Piece{}, e)
	// Output:
	// 2
	// 3 1 2 bc 0
	// true 5
}

func ExampleTake() {
	s := strings.Repeat("a", 64) + "bc"
	p, _ := load.Cut(3, s, 0)
	q, _ := load.Cut(3, s, 1)
	l, e := load.Take(load.New(3), q)
	fmt.Println(load.Missing(l), e)
	_, e = load.Take(l, q)
	fmt.Println(e)
	_, e = load.Whole(l)
	fmt.Println(e)
	l, e = load.Take(l, p)
	whole, e2 := load.Whole(l)
	fmt.Println(load.Missing(l), e, whole == s, e2)
	// Output:
	// 0 0
	// 8
	// 5
	// -1 0 true 0
}
