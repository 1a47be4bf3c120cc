package num_test

import (
	"fmt"
	"math"
	"math/big"
	"math/rand"
	"strings"
	"testing"

	"phalanx/api"
	"phalanx/num"
)

const (
	nan   uint64 = 0x7ff8000000000000
	inf   uint64 = 0x7ff0000000000000
	minus uint64 = 1 << 63
	one   uint64 = 0x3ff0000000000000
	great uint64 = 0x7fefffffffffffff // the greatest finite one
	small uint64 = 0x0010000000000000 // the least one above 0 that is normal
)

// rising are floats in the order, each one once.
func rising() []uint64 {
	up := []uint64{0, 1, 2, 3, 1 << 51, small - 1, small, small + 1, 0x3cb0000000000000, 0x3fe0000000000000,
		one - 1, one, one + 1, 0x3ff8000000000000, 0x4000000000000000, 0x4008000000000000, 0x4340000000000000,
		0x4340000000000001, 0x7fdfffffffffffff, 0x7fe0000000000000, great - 1, great, inf}
	l := []uint64{}
	for i := range up {
		l = append(l, up[len(up)-1-i]|minus)
	}
	return append(append(l, up...), nan)
}

// nans are bits that are no number, the ends of both signs among them.
func nans() []uint64 {
	return []uint64{nan, 0x7ff0000000000001, 0x7ff7ffffffffffff, 0x7ff8000000000001, 0x7fffffffffffffff,
		0xfff0000000000001, 0xfff7ffffffffffff, 0xfff8000000000000, 0xfff8000000000001, 0xffffffffffffffff}
}

// all are the floats in the order, and behind them the bits that are no number.
func all() []uint64 { return append(rising(), nans()...) }

// some are bits at will, always the same: any, and such as are near one another.
func some(n int) []uint64 {
	r := rand.New(rand.NewSource(2))
	l := []uint64{}
	for range n {
		b := r.Uint64()
		l = append(l, b, b&^(0x7ff<<52)|uint64(1020+r.Intn(8))<<52, b&minus|b>>12)
	}
	return l
}

// without is the one NaN for all of them, told by the library's own question.
func without(b uint64) uint64 {
	if math.IsNaN(math.Float64frombits(b)) {
		return nan
	}
	return b
}

// P2.1

func TestMakeLeavesNumbers(t *testing.T) {
	for _, b := range rising() {
		if got := num.Make(b); got != b {
			t.Errorf("Make(%016x) = %016x", b, got)
		}
	}
}

func TestMakeOfNoNumber(t *testing.T) {
	for _, b := range nans() {
		if got := num.Make(b); got != nan {
			t.Errorf("Make(%016x) = %016x, not NaN", b, got)
		}
	}
	for i := range 52 {
		for _, b := range []uint64{inf | 1<<i, inf | minus | 1<<i} {
			if got := num.Make(b); got != nan {
				t.Errorf("Make(%016x) = %016x, not NaN", b, got)
			}
		}
	}
}

func TestMakeOfAny(t *testing.T) {
	for _, b := range some(5000) {
		if got, want := num.Make(b), without(b); got != want {
			t.Fatalf("Make(%016x) = %016x, not %016x", b, got, want)
		}
	}
}

// P2.2

func TestOrder(t *testing.T) {
	l := rising()
	for i, a := range l {
		for j, b := range l {
			want, least, most := 0, a, a
			if i < j {
				want, most = -1, b
			}
			if i > j {
				want, least = 1, b
			}
			if got := num.Cmp(a, b); got != want {
				t.Errorf("Cmp(%016x, %016x) = %d, not %d", a, b, got, want)
			}
			if got := num.Least(a, b); got != least {
				t.Errorf("Least(%016x, %016x) = %016x, not %016x", a, b, got, least)
			}
			if got := num.Most(a, b); got != most {
				t.Errorf("Most(%016x, %016x) = %016x, not %016x", a, b, got, most)
			}
		}
	}
}

func TestOrderTakesNoNumberForNaN(t *testing.T) {
	for _, n := range nans() {
		for _, b := range all() {
			want := 1
			if without(b) == nan {
				want = 0
			}
			if got, turned := num.Cmp(n, b), num.Cmp(b, n); got != want || turned != -want {
				t.Errorf("Cmp(%016x, %016x) = %d, turned round %d", n, b, got, turned)
			}
			if got, turned := num.Least(n, b), num.Least(b, n); got != without(b) || turned != without(b) {
				t.Errorf("Least(%016x, %016x) = %016x, turned round %016x", n, b, got, turned)
			}
			if got, turned := num.Most(n, b), num.Most(b, n); got != nan || turned != nan {
				t.Errorf("Most(%016x, %016x) = %016x, turned round %016x", n, b, got, turned)
			}
		}
	}
}

func TestOrderOfFiniteOnes(t *testing.T) {
	l := some(300)
	for _, a := range l {
		x := math.Float64frombits(a)
		for _, b := range l {
			y := math.Float64frombits(b)
			if math.IsNaN(x) || math.IsNaN(y) || x == y {
				continue
			}
			want := 1
			if x < y {
				want = -1
			}
			if got := num.Cmp(a, b); got != want {
				t.Fatalf("Cmp(%016x, %016x) = %d, not %d", a, b, got, want)
			}
		}
	}
}

// P2.3

func TestAddKnown(t *testing.T) {
	known := []struct{ a, b, sum uint64 }{
		{one, one, 0x4000000000000000},
		{0x3fb999999999999a, 0x3fc999999999999a, 0x3fd3333333333334}, // 0.1 and 0.2
		{inf, inf, inf},
		{inf | minus, inf | minus, inf | minus},
		{inf, inf | minus, nan},
		{inf, great | minus, inf},
		{inf | minus, great, inf | minus},
		{one, one | minus, 0},
		{1, 1 | minus, 0},
		{great, great | minus, 0},
		{0, minus, 0},
		{0, 0, 0},
		{minus, minus, minus},
		{great, great, inf},
		{great, 0x7c90000000000000, inf},   // half of great's last bit: two as near
		{great, 0x7c8fffffffffffff, great}, // less than that
		{great | minus, 0xfc90000000000000, inf | minus},
		{one, 0x3ca0000000000000, one},         // half of one's last bit: one's is 0
		{one + 1, 0x3ca0000000000000, one + 2}, // likewise: one + 1's is 1
		{one, 0x3ca0000000000001, one + 1},
		{one, 1, one},
		{1, 1, 2},
		{small - 1, 1, small},
		{small, 1 | minus, small - 1},
		{nan, one, nan},
		{nan, inf, nan},
		{nan, nan, nan},
	}
	for _, k := range known {
		if got := num.Add(k.a, k.b); got != k.sum {
			t.Errorf("Add(%016x, %016x) = %016x, not %016x", k.a, k.b, got, k.sum)
		}
		if got := num.Add(k.b, k.a); got != k.sum {
			t.Errorf("Add(%016x, %016x) = %016x, not %016x", k.b, k.a, got, k.sum)
		}
	}
}

// exact is the sum, made without rounding, and rounded then.
func exact(a, b uint64) uint64 {
	if without(a) == nan || without(b) == nan {
		return nan
	}
	x, y := math.Float64frombits(a), math.Float64frombits(b)
	switch {
	case math.IsInf(x, 0) && math.IsInf(y, 0) && a != b:
		return nan
	case math.IsInf(x, 0) || a == minus && b == minus:
		return a
	case math.IsInf(y, 0):
		return b
	}
	// 2200 bits hold the sum of the greatest float and the least one.
	sum := new(big.Float).SetPrec(2200).SetMode(big.ToNearestEven)
	sum.Add(big.NewFloat(x), big.NewFloat(y))
	if sum.Sign() == 0 {
		return 0
	}
	f, _ := sum.Float64()
	return math.Float64bits(f)
}

func TestAddIsRoundedOnce(t *testing.T) {
	l := append(all(), some(60)...)
	for _, a := range l {
		for _, b := range l {
			if got, want := num.Add(a, b), exact(a, b); got != want {
				t.Fatalf("Add(%016x, %016x) = %016x, not %016x", a, b, got, want)
			}
		}
	}
}

func TestAddOfNoNumber(t *testing.T) {
	for _, n := range nans() {
		for _, b := range all() {
			if got, turned := num.Add(n, b), num.Add(b, n); got != nan || turned != nan {
				t.Errorf("Add(%016x, %016x) = %016x, turned round %016x", n, b, got, turned)
			}
		}
	}
}

func TestAddOfOpposites(t *testing.T) {
	for _, a := range some(500) {
		if a&^minus >= inf {
			continue
		}
		if got := num.Add(a, a^minus); got != 0 {
			t.Fatalf("Add(%016x, its opposite) = %016x", a, got)
		}
	}
}

func TestOfKnown(t *testing.T) {
	known := []struct {
		n int
		b uint64
	}{
		{0, 0},
		{1, one},
		{-1, one | minus},
		{2, 0x4000000000000000},
		{3, 0x4008000000000000},
		{1<<53 - 1, 0x433fffffffffffff},
		{1 << 53, 0x4340000000000000},
		{1<<53 + 1, 0x4340000000000000}, // two as near
		{1<<53 + 3, 0x4340000000000002}, // likewise
		{-1<<53 - 1, 0xc340000000000000},
		{-1<<53 - 3, 0xc340000000000002},
		{1<<54 + 3, 0x4350000000000001},
		{math.MaxInt, 0x43e0000000000000},
		{math.MaxInt - 511, 0x43e0000000000000}, // two as near
		{math.MaxInt - 512, 0x43dfffffffffffff},
		{math.MinInt, 0xc3e0000000000000},
		{math.MinInt + 1, 0xc3e0000000000000},
	}
	for _, k := range known {
		if got := num.Of(k.n); got != k.b {
			t.Errorf("Of(%d) = %016x, not %016x", k.n, got, k.b)
		}
	}
}

func TestOfIsNearest(t *testing.T) {
	for _, b := range some(3000) {
		for i := range 64 {
			n := int(b) >> i
			f, _ := new(big.Float).SetPrec(64).SetInt64(int64(n)).Float64()
			if got, want := num.Of(n), math.Float64bits(f); got != want {
				t.Fatalf("Of(%d) = %016x, not %016x", n, got, want)
			}
		}
	}
}

// P2.4

func TestText(t *testing.T) {
	known := []struct {
		b uint64
		s string
	}{
		{0, "0000000000000000"},
		{1, "0000000000000001"},
		{minus, "8000000000000000"},
		{one, "3ff0000000000000"},
		{0x0123456789abcdef, "0123456789abcdef"},
		{inf, "7ff0000000000000"},
		{inf | minus, "fff0000000000000"},
		{nan, "7ff8000000000000"},
		{0xfff0000000000001, "7ff8000000000000"},
		{0xffffffffffffffff, "7ff8000000000000"},
	}
	for _, k := range known {
		if got := num.Text(k.b); got != k.s {
			t.Errorf("Text(%016x) = %q, not %q", k.b, got, k.s)
		}
	}
	for _, b := range append(all(), some(500)...) {
		if got, want := num.Text(b), fmt.Sprintf("%016x", without(b)); got != want {
			t.Fatalf("Text(%016x) = %q, not %q", b, got, want)
		}
	}
}

func TestReadOfText(t *testing.T) {
	for _, b := range append(all(), some(500)...) {
		if got, e := num.Read(num.Text(b)); got != without(b) || e != api.OK {
			t.Fatalf("Read of the text of %016x = %016x, %d", b, got, e)
		}
	}
}

// refused asks that there be no float whose text is s.
func refused(t *testing.T, s string) {
	t.Helper()
	if b, e := num.Read(s); b != 0 || e != api.ErrForm {
		t.Errorf("Read(%.40q) = %016x, %d, not 0, ErrForm", s, b, e)
	}
}

func TestReadOfNoNumber(t *testing.T) {
	for _, b := range nans() {
		if b != nan {
			refused(t, fmt.Sprintf("%016x", b))
		}
	}
}

func TestReadOfOtherLengths(t *testing.T) {
	for n := range 100 {
		if n != 16 {
			refused(t, strings.Repeat("0", n))
			refused(t, strings.Repeat("1", n))
		}
	}
	refused(t, strings.Repeat("0", 1<<20))
	refused(t, "F")
	refused(t, "3ff0000000000000\n")
}

func TestReadOfOtherForms(t *testing.T) {
	for _, s := range []string{"+3ff000000000000", "-3ff000000000000", "0x3ff00000000000", "0X3ff00000000000",
		"3ff0_0000_0000_0", " 3ff000000000000", "3ff000000000000 ", "3FF0000000000000x", "NaN             ",
		"éééééééé", "0000000000000００", "................", "3ff0000000000g00"} {
		refused(t, s)
	}
}

// TestReadOfEachByte puts each byte in each place: just the digits are read.
func TestReadOfEachByte(t *testing.T) {
	for at := range 16 {
		for c := range 256 {
			b := []byte("3ff0000000000000")
			b[at] = byte(c)
			s := string(b)
			digit := strings.IndexByte("0123456789abcdef", byte(c))
			if digit < 0 {
				refused(t, s)
				continue
			}
			shift := 60 - 4*at
			want := one&^(15<<shift) | uint64(digit)<<shift
			if got, e := num.Read(s); got != want || e != api.OK {
				t.Errorf("Read(%q) = %016x, %d, not %016x, OK", s, got, e, want)
			}
		}
	}
}

// P2.5

func TestOrderIsOne(t *testing.T) {
	l := append(all(), some(20)...)
	for _, a := range l {
		for _, b := range l {
			c := num.Cmp(a, b)
			if c < -1 || c > 1 || num.Cmp(b, a) != -c || (c == 0) != (without(a) == without(b)) {
				t.Fatalf("Cmp(%016x, %016x) = %d, turned round %d", a, b, c, num.Cmp(b, a))
			}
			for _, d := range l {
				if c <= 0 && num.Cmp(b, d) <= 0 && num.Cmp(a, d) > 0 {
					t.Fatalf("%016x, %016x, %016x don't go on", a, b, d)
				}
			}
		}
	}
}

func TestAddEitherWayRound(t *testing.T) {
	l := append(all(), some(100)...)
	for _, a := range l {
		for _, b := range l {
			if x, y := num.Add(a, b), num.Add(b, a); x != y {
				t.Fatalf("Add(%016x, %016x) = %016x, turned round %016x", a, b, x, y)
			}
		}
	}
}

func TestAddOfMinusZeroChangesNothing(t *testing.T) {
	for _, a := range append(all(), some(500)...) {
		if got := num.Add(minus, a); got != without(a) {
			t.Fatalf("Add(-0, %016x) = %016x", a, got)
		}
	}
}

// Whatever a call answers is a float as all replicas have it.
func TestAnswersAreMade(t *testing.T) {
	l := append(all(), some(60)...)
	for _, a := range l {
		for _, b := range l {
			for _, got := range []uint64{num.Add(a, b), num.Least(a, b), num.Most(a, b), num.Of(int(a))} {
				if got != without(got) {
					t.Fatalf("of %016x and %016x: %016x", a, b, got)
				}
			}
		}
	}
}
