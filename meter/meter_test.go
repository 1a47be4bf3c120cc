package meter_test

import (
	"fmt"
	"math"
	"math/rand"
	"slices"
	"testing"

	"phalanx/api"
	"phalanx/meter"
)

// Floats by their bits.
const (
	nan   uint64 = 0x7ff8000000000000
	inf   uint64 = 0x7ff0000000000000
	minus uint64 = 1 << 63 // the sign; by itself -0
	one   uint64 = 0x3ff0000000000000
	two   uint64 = 0x4000000000000000
	three uint64 = 0x4008000000000000
	wide  uint64 = 0x4340000000000000 // 2 to the 53: one more is no float
	great uint64 = 0x7fefffffffffffff // the greatest finite one
)

// rising are floats in the order, each one once.
func rising() []uint64 {
	return []uint64{inf | minus, great | minus, wide | minus, three | minus, two | minus, one | minus, 1 | minus, minus,
		0, 1, 1 << 52, 0x3fb999999999999a, one, one + 1, two, three, wide, great, inf, nan}
}

// nans are bits that are no number, but NaN's own: the ends of both signs among
// them.
func nans() []uint64 {
	return []uint64{inf + 1, nan - 1, nan + 1, 1<<63 - 1, inf | minus + 1, nan | minus, math.MaxUint64}
}

// all are the floats in the order, and behind them the bits that are no number.
func all() []uint64 { return append(rising(), nans()...) }

// counts are how many floats may have come, when any came: the ends, and between.
func counts() []int {
	return []int{1, 2, 3, 255, 256, 1 << 31, 1<<32 + 1, math.MaxInt - 1, math.MaxInt}
}

// wrongCounts are none of those, and not 0.
func wrongCounts() []int {
	return []int{-1, -2, -256, -1 << 31, -1 << 32, math.MinInt + 1, math.MinInt}
}

// whats are what is asked: near the bounds, and far off.
func whats() []int {
	return []int{math.MinInt, -1 << 32, -4, -1, 0, 1, 2, 3, 4, 5, 256, 1 << 32, 1<<32 + 1, math.MaxInt}
}

func of(count int, sum, least, most uint64) api.Meter {
	return api.Meter{Count: count, Sum: sum, Least: least, Most: most}
}

func number(n int) api.Value { return api.Value{Kind: api.VInt, N: n} }

func float(b uint64) api.Value { return api.Value{Kind: api.VFloat, F: b} }

// short is m as it is to be read.
func short(m api.Meter) string {
	return fmt.Sprintf("%d: %016x, %016x to %016x", m.Count, m.Sum, m.Least, m.Most)
}

// The words of chapter 2, told by the library's own floats.

func made(b uint64) uint64 {
	if math.IsNaN(math.Float64frombits(b)) {
		return nan
	}
	return b
}

// ahead tells whether a stands ahead of b in the order.
func ahead(a, b uint64) bool {
	x, y := math.Float64frombits(a), math.Float64frombits(b)
	switch {
	case math.IsNaN(x):
		return false
	case math.IsNaN(y):
		return true
	case x == y:
		return math.Signbit(x) && !math.Signbit(y)
	}
	return x < y
}

func sum(a, b uint64) uint64 {
	return made(math.Float64bits(math.Float64frombits(a) + math.Float64frombits(b)))
}

// The words of this chapter.

func right(m api.Meter) bool {
	if m.Count == 0 {
		return m.Sum == 0 && m.Least == 0 && m.Most == 0
	}
	for _, b := range []uint64{m.Sum, m.Least, m.Most} {
		if made(b) != b {
			return false
		}
	}
	return m.Count > 0 && !ahead(m.Most, m.Least)
}

func add(m api.Meter, b uint64) (api.Meter, api.Errno) {
	b = made(b)
	switch {
	case !right(m):
		return m, api.ErrArg
	case m.Count == math.MaxInt:
		return m, api.ErrFull
	case m.Count == 0:
		return of(1, b, b, b), api.OK
	}
	m.Count++
	m.Sum = sum(m.Sum, b)
	if ahead(b, m.Least) {
		m.Least = b
	}
	if ahead(m.Most, b) {
		m.Most = b
	}
	return m, api.OK
}

func read(m api.Meter, what int) (api.Value, api.Errno) {
	asked := map[int]api.Value{0: number(m.Count), 1: float(m.Sum), 2: float(m.Least), 3: float(m.Most)}
	v, is := asked[what]
	switch {
	case !right(m), !is:
		return api.Value{}, api.ErrArg
	case what != 0 && m.Count == 0:
		return api.Value{}, api.ErrEmpty
	}
	return v, api.OK
}

// meters are such that may be, and such that may not: with each count all rows of
// three out of all bits; and those of none, with something in them.
func meters() []api.Meter {
	l := []api.Meter{{}}
	for _, count := range slices.Concat(counts(), wrongCounts(), []int{0}) {
		for _, s := range all() {
			for _, least := range all() {
				for _, most := range all() {
					l = append(l, of(count, s, least, most))
				}
			}
		}
	}
	return l
}

// bad are meters that may not be, each for one thing alone.
func bad() []api.Meter {
	l := []api.Meter{of(1, two, two, one), of(2, 0, 0, minus), of(math.MaxInt, 0, nan, inf), of(3, nan, inf, inf|minus),
		of(0, 0, 0, minus), of(0, minus, 0, 0), of(0, 0, minus, 0), of(0, 1, 1, 1), of(0, nan, nan, nan), of(0, 0, 0, one)}
	for _, n := range nans() {
		for _, count := range []int{1, 7, math.MaxInt} {
			l = append(l, of(count, n, 0, 0), of(count, 0, n, nan), of(count, 0, 0, n), of(count, n, n, n))
		}
	}
	for _, count := range wrongCounts() {
		l = append(l, of(count, 0, 0, 0), of(count, three, one, two))
	}
	return l
}

// P14.1

func TestRightKnown(t *testing.T) {
	known := []struct {
		m  api.Meter
		is bool
	}{
		{api.Meter{}, true},
		{of(1, 0, 0, 0), true},
		{of(1, three, one, two), true},
		{of(1, three, one, one), true},
		{of(2, 0, minus, 0), true},
		{of(2, nan, inf|minus, inf), true},
		{of(2, nan, one, nan), true},
		{of(2, 0, nan, nan), true},
		{of(math.MaxInt, inf, inf, inf), true},
		{of(0, one, 0, 0), false},
		{of(0, minus, 0, 0), false},
		{of(0, 0, one, 0), false},
		{of(0, 0, 0, one), false},
		{of(0, one, one, one), false},
		{of(-1, 0, 0, 0), false},
		{of(-1, one, one, one), false},
		{of(math.MinInt, one, one, one), false},
		{of(2, three, two, one), false},
		{of(2, 0, 0, minus), false},
		{of(2, 0, one|minus, two|minus), false},
		{of(2, nan, nan, inf), false},
		{of(2, nan, inf, inf|minus), false},
		{of(1, nan+1, one, two), false},
		{of(1, one, nan+1, nan+1), false},
		{of(1, one, one, nan|minus), false},
		{of(1, one, inf+1, nan), false},
	}
	for _, k := range known {
		if got := meter.Right(k.m); got != k.is {
			t.Errorf("Right(%s) = %v", short(k.m), got)
		}
	}
}

func TestRightOfAny(t *testing.T) {
	for _, m := range meters() {
		if got := meter.Right(m); got != right(m) {
			t.Fatalf("Right(%s) = %v", short(m), got)
		}
	}
}

func TestRightOfBad(t *testing.T) {
	for _, m := range bad() {
		if meter.Right(m) {
			t.Errorf("Right(%s)", short(m))
		}
	}
}

// TestRightTellsTheOrder takes each two floats as the least and the greatest.
func TestRightTellsTheOrder(t *testing.T) {
	for i, least := range rising() {
		for j, most := range rising() {
			m := of(2, 0, least, most)
			if got := meter.Right(m); got != (i <= j) {
				t.Errorf("Right(%s) = %v", short(m), got)
			}
		}
	}
}

// P14.2

func TestAddKnown(t *testing.T) {
	known := []struct {
		m    api.Meter
		b    uint64
		want api.Meter
		e    api.Errno
	}{
		{api.Meter{}, one, of(1, one, one, one), api.OK},
		{of(1, one, one, one), two, of(2, three, one, two), api.OK},
		{of(1, two, two, two), one, of(2, three, one, two), api.OK},
		{of(1, one, one, one), one, of(2, two, one, one), api.OK},
		{of(5, 0, one|minus, three), two, of(6, two, one|minus, three), api.OK},
		{api.Meter{}, 0, of(1, 0, 0, 0), api.OK},
		{api.Meter{}, minus, of(1, minus, minus, minus), api.OK},
		{of(1, minus, minus, minus), minus, of(2, minus, minus, minus), api.OK},
		{of(1, minus, minus, minus), 0, of(2, 0, minus, 0), api.OK},
		{of(1, 0, 0, 0), minus, of(2, 0, minus, 0), api.OK},
		{of(1, one, one, one), one | minus, of(2, 0, one|minus, one), api.OK},
		{api.Meter{}, inf, of(1, inf, inf, inf), api.OK},
		{of(1, inf, inf, inf), inf | minus, of(2, nan, inf|minus, inf), api.OK},
		{of(2, nan, inf|minus, inf), one, of(3, nan, inf|minus, inf), api.OK},
		{of(1, great, great, great), great, of(2, inf, great, great), api.OK},
		{of(1, wide, wide, wide), one, of(2, wide, one, wide), api.OK},
		{of(1, one, one, one), nan, of(2, nan, one, nan), api.OK},
		{of(1, nan, nan, nan), one, of(2, nan, one, nan), api.OK},
		{api.Meter{}, nan, of(1, nan, nan, nan), api.OK},
		{api.Meter{}, nan | minus, of(1, nan, nan, nan), api.OK},
		{api.Meter{}, inf + 1, of(1, nan, nan, nan), api.OK},
		{of(1, inf, inf, inf), math.MaxUint64, of(2, nan, inf, nan), api.OK},
		{of(math.MaxInt-1, one, one, one), two, of(math.MaxInt, three, one, two), api.OK},
		{of(math.MaxInt, three, one, two), one, of(math.MaxInt, three, one, two), api.ErrFull},
		{of(math.MaxInt, three, one, two), nan + 1, of(math.MaxInt, three, one, two), api.ErrFull},
		{of(math.MaxInt, three, two, one), one, of(math.MaxInt, three, two, one), api.ErrArg},
		{of(math.MaxInt, nan+1, one, two), one, of(math.MaxInt, nan+1, one, two), api.ErrArg},
		{of(-1, 0, 0, 0), 0, of(-1, 0, 0, 0), api.ErrArg},
		{of(math.MinInt, one, one, one), one, of(math.MinInt, one, one, one), api.ErrArg},
		{of(0, one, 0, 0), one, of(0, one, 0, 0), api.ErrArg},
		{of(0, minus, minus, minus), one, of(0, minus, minus, minus), api.ErrArg},
		{of(2, three, one, nan|minus), one, of(2, three, one, nan|minus), api.ErrArg},
	}
	for _, k := range known {
		if got, e := meter.Add(k.m, k.b); got != k.want || e != k.e {
			t.Errorf("Add(%s; %016x) = %s, %d, not %s, %d", short(k.m), k.b, short(got), e, short(k.want), k.e)
		}
	}
}

func TestAddToAny(t *testing.T) {
	floats := []uint64{inf | minus, one | minus, minus, 0, one, great, inf, nan, inf + 1, math.MaxUint64}
	for _, m := range meters() {
		for _, b := range floats {
			got, e := meter.Add(m, b)
			if want, wantE := add(m, b); got != want || e != wantE {
				t.Fatalf("Add(%s; %016x) = %s, %d, not %s, %d", short(m), b, short(got), e, short(want), wantE)
			}
			if e == api.OK && !meter.Right(got) {
				t.Fatalf("Add(%s; %016x) = %s, which may not be", short(m), b, short(got))
			}
		}
	}
}

// TestAddOfAny adds all bits to meters that came to be by floats.
func TestAddOfAny(t *testing.T) {
	for _, first := range all() {
		for _, second := range all() {
			m := came(t, first, second)
			for _, b := range all() {
				got, e := meter.Add(m, b)
				if want, wantE := add(m, b); got != want || e != wantE {
					t.Fatalf("Add(%s; %016x) = %s, %d, not %s, %d", short(m), b, short(got), e, short(want), wantE)
				}
			}
		}
	}
}

func TestAddToBad(t *testing.T) {
	for _, m := range bad() {
		for _, b := range all() {
			if got, e := meter.Add(m, b); got != m || e != api.ErrArg {
				t.Errorf("Add(%s; %016x) = %s, %d", short(m), b, short(got), e)
			}
		}
	}
}

// TestAddToFull: one float more is counted up to the end, and none behind it.
func TestAddToFull(t *testing.T) {
	for _, b := range all() {
		m := of(math.MaxInt-2, one, one, one)
		for _, want := range []api.Errno{api.OK, api.OK, api.ErrFull, api.ErrFull} {
			got, e := meter.Add(m, b)
			if e != want || e == api.OK && got.Count != m.Count+1 || e != api.OK && got != m {
				t.Errorf("Add(%s; %016x) = %s, %d, not %d", short(m), b, short(got), e, want)
			}
			m = got
		}
	}
}

// P14.3

func TestReadKnown(t *testing.T) {
	m := of(2, three, one, two)
	known := []struct {
		m    api.Meter
		what int
		want api.Value
		e    api.Errno
	}{
		{m, 0, number(2), api.OK},
		{m, 1, float(three), api.OK},
		{m, 2, float(one), api.OK},
		{m, 3, float(two), api.OK},
		{m, 4, api.Value{}, api.ErrArg},
		{m, -1, api.Value{}, api.ErrArg},
		{m, math.MaxInt, api.Value{}, api.ErrArg},
		{m, math.MinInt, api.Value{}, api.ErrArg},
		{api.Meter{}, 0, number(0), api.OK},
		{api.Meter{}, 1, api.Value{}, api.ErrEmpty},
		{api.Meter{}, 2, api.Value{}, api.ErrEmpty},
		{api.Meter{}, 3, api.Value{}, api.ErrEmpty},
		{api.Meter{}, 4, api.Value{}, api.ErrArg},
		{api.Meter{}, -1, api.Value{}, api.ErrArg},
		{of(1, 0, 0, 0), 1, float(0), api.OK},
		{of(1, minus, minus, minus), 3, float(minus), api.OK},
		{of(math.MaxInt, nan, inf|minus, inf), 0, number(math.MaxInt), api.OK},
		{of(math.MaxInt, nan, inf|minus, inf), 1, float(nan), api.OK},
		{of(math.MaxInt, nan, inf|minus, inf), 2, float(inf | minus), api.OK},
		{of(math.MaxInt, nan, inf|minus, inf), 3, float(inf), api.OK},
		{of(-1, 0, 0, 0), 0, api.Value{}, api.ErrArg},
		{of(0, one, one, one), 0, api.Value{}, api.ErrArg},
		{of(0, one, one, one), 1, api.Value{}, api.ErrArg},
		{of(2, three, two, one), 0, api.Value{}, api.ErrArg},
		{of(2, nan+1, one, two), 1, api.Value{}, api.ErrArg},
		{of(2, nan+1, one, two), 2, api.Value{}, api.ErrArg},
	}
	for _, k := range known {
		if got, e := meter.Read(k.m, k.what); got != k.want || e != k.e {
			t.Errorf("Read(%s; %d) = %v, %d, not %v, %d", short(k.m), k.what, got, e, k.want, k.e)
		}
	}
}

func TestReadOfAny(t *testing.T) {
	// All sums stand beside few least and greatest ones here, and the other way round.
	for _, count := range slices.Concat(counts(), wrongCounts(), []int{0}) {
		for _, x := range all() {
			for _, y := range all() {
				for _, m := range []api.Meter{of(count, x, minus, y), of(count, x, y, nan), of(count, 0, x, y), of(count, nan+1, x, y)} {
					reads(t, m)
				}
			}
		}
	}
	reads(t, api.Meter{})
}

func TestReadOfBad(t *testing.T) {
	for _, m := range bad() {
		for _, what := range whats() {
			if v, e := meter.Read(m, what); v != (api.Value{}) || e != api.ErrArg {
				t.Errorf("Read(%s; %d) = %v, %d", short(m), what, v, e)
			}
		}
	}
}

// reads asks m for all there is, and for what there isn't.
func reads(t *testing.T, m api.Meter) {
	t.Helper()
	for _, what := range whats() {
		v, e := meter.Read(m, what)
		if want, wantE := read(m, what); v != want || e != wantE {
			t.Fatalf("Read(%s; %d) = %v, %d, not %v, %d", short(m), what, v, e, want, wantE)
		}
	}
}

// P14.4

// came is the meter behind the floats, from nothing on.
func came(t *testing.T, floats ...uint64) api.Meter {
	t.Helper()
	m := api.Meter{}
	for _, b := range floats {
		next, e := meter.Add(m, b)
		if e != api.OK {
			t.Fatalf("Add(%s; %016x): %d", short(m), b, e)
		}
		m = next
	}
	return m
}

// orders are all the orders of the floats.
func orders(floats []uint64) [][]uint64 {
	if len(floats) == 0 {
		return [][]uint64{nil}
	}
	l := [][]uint64{}
	for i, b := range floats {
		rest := slices.Concat(floats[:i], floats[i+1:])
		for _, behind := range orders(rest) {
			l = append(l, append([]uint64{b}, behind...))
		}
	}
	return l
}

// TestOrderOfLeastAndMost takes all sets of four floats in all orders: the first
// and the last one in the order are the least and the greatest.
func TestOrderOfLeastAndMost(t *testing.T) {
	floats := []uint64{inf | minus, great | minus, one | minus, minus, 0, one, wide, inf, nan}
	for bits := range 1 << len(floats) {
		set := []uint64{}
		for i, b := range floats {
			if bits>>i&1 == 1 {
				set = append(set, b)
			}
		}
		if len(set) == 0 || len(set) > 4 {
			continue
		}
		for _, l := range orders(set) {
			if m := came(t, l...); m.Least != set[0] || m.Most != set[len(set)-1] || m.Count != len(set) {
				t.Fatalf("behind %x: %s", l, short(m))
			}
		}
	}
}

// TestOrderOfSum: the first two may come in either order; for those behind it the
// order is kept, since each sum is rounded.
func TestOrderOfSum(t *testing.T) {
	for _, a := range all() {
		for _, b := range all() {
			for _, behind := range []uint64{one, one | minus, wide | minus, nan} {
				if x, y := came(t, a, b, behind), came(t, b, a, behind); x != y {
					t.Fatalf("behind %016x, %016x, %016x: %s; %s", a, b, behind, short(x), short(y))
				}
			}
		}
	}
	if m := came(t, wide, one, one); m.Sum != wide {
		t.Errorf("2 to the 53, 1, 1: %s", short(m))
	}
	if m := came(t, one, one, wide); m.Sum != wide+1 {
		t.Errorf("1, 1, 2 to the 53: %s", short(m))
	}
	if m := came(t, one, wide, wide|minus); m.Sum != 0 {
		t.Errorf("1, 2 to the 53, its opposite: %s", short(m))
	}
	if m := came(t, wide, wide|minus, one); m.Sum != one {
		t.Errorf("2 to the 53, its opposite, 1: %s", short(m))
	}
}

// TestNaNStays: once one came, whichever, the sum and the greatest are NaN.
func TestNaNStays(t *testing.T) {
	for _, n := range append(nans(), nan) {
		for _, ahead := range [][]uint64{nil, {one}, {inf | minus, inf}, {minus}} {
			m := came(t, append(ahead, n)...)
			for _, b := range append([]uint64{n}, all()...) {
				m, _ = meter.Add(m, b)
				if m.Sum != nan || m.Most != nan {
					t.Fatalf("%016x, then %016x: %s", n, b, short(m))
				}
			}
			if m.Least != inf|minus {
				t.Fatalf("the least behind %016x: %s", n, short(m))
			}
		}
	}
	if m := came(t, nan, nan); m.Least != nan {
		t.Errorf("NaN alone: %s", short(m))
	}
}

// TestRunsAtWill holds meters against all the floats that came, put in order.
func TestRunsAtWill(t *testing.T) {
	x := rand.New(rand.NewSource(14))
	for run := range 300 {
		m, floats, total := api.Meter{}, []uint64{}, uint64(minus)
		for range 1 + x.Intn(60) {
			b := x.Uint64()
			switch {
			case run%3 == 0:
				b = rising()[x.Intn(len(rising())-1)]
			case run%3 == 1:
				b = b&^(0x7ff<<52) | uint64(1000+x.Intn(60))<<52
			}
			m, _ = meter.Add(m, b)
			floats = append(floats, made(b))
			// -0 added changes nothing, so the first float is itself.
			total = sum(total, b)
		}
		slices.SortFunc(floats, func(a, b uint64) int {
			switch {
			case ahead(a, b):
				return -1
			case ahead(b, a):
				return 1
			}
			return 0
		})
		if want := of(len(floats), total, floats[0], floats[len(floats)-1]); m != want {
			t.Fatalf("run %d: %s, not %s", run, short(m), short(want))
		}
		reads(t, m)
	}
}

// TestRefusedStays: what is refused leaves the meter as it was, for what comes
// behind it too.
func TestRefusedStays(t *testing.T) {
	m := of(math.MaxInt, three, one, two)
	for _, b := range all() {
		m, _ = meter.Add(m, b)
		if m != of(math.MaxInt, three, one, two) {
			t.Fatalf("%016x refused: %s", b, short(m))
		}
		reads(t, m)
	}
	n := of(2, three, two, one)
	for _, b := range all() {
		n, _ = meter.Add(n, b)
		if n != of(2, three, two, one) {
			t.Fatalf("%016x refused: %s", b, short(n))
		}
	}
}

func ExampleAdd() {
	m, e := meter.Add(api.Meter{}, one)
	m, e = meter.Add(m, two)
	fmt.Println(m.Count, m.Sum == three, m.Least == one, m.Most == two, e)
	m, e = meter.Add(of(math.MaxInt, one, one, one), two)
	fmt.Println(m == of(math.MaxInt, one, one, one), e)
	// Output:
	// 2 true true true 0
	// true 6
}

func ExampleRead() {
	m, _ := meter.Add(api.Meter{}, inf)
	m, _ = meter.Add(m, inf|minus)
	for what := range 5 {
		v, e := meter.Read(m, what)
		fmt.Printf("%d %d %x %d\n", v.Kind, v.N, v.F, e)
	}
	_, e := meter.Read(api.Meter{}, 1)
	fmt.Println(e)
	// Output:
	// 1 2 0 0
	// 2 0 7ff8000000000000 0
	// 2 0 fff0000000000000 0
	// 2 0 7ff0000000000000 0
	// 0 0 0 1
	// 10
}
