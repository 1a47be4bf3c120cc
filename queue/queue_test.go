package queue_test

import (
	"fmt"
	"math"
	"math/rand"
	"slices"
	"strings"
	"testing"

	"phalanx/api"
	"phalanx/queue"
	"phalanx/value"
)

const (
	one uint64 = 0x3ff0000000000000
	nan uint64 = 0x7ff8000000000000
)

func vInt(n int) api.Value      { return api.Value{Kind: api.VInt, N: n} }
func vFloat(f uint64) api.Value { return api.Value{Kind: api.VFloat, F: f} }
func vText(s string) api.Value  { return api.Value{Kind: api.VText, S: s} }

// ints are numbers as values.
func ints(l ...int) []api.Value {
	values := []api.Value{}
	for _, n := range l {
		values = append(values, vInt(n))
	}
	return values
}

// short is x in few words, all of them to be read.
func short(x any) string { return fmt.Sprintf("%.300q", fmt.Sprint(x)) }

// marked is a value that is in no queue.
var marked = api.Value{Kind: 77, N: 77}

// roomy is l's values, with three that are marked in the spare room behind them.
func roomy(l []api.Value) []api.Value {
	return slices.Concat(l, []api.Value{marked, marked, marked})[:len(l)]
}

// rightNs are the capacities that may be, wrongNs are some that may not.
func rightNs() []int { return []int{1, 2, 3, 4, 5, 6, 7, 8} }

func wrongNs() []int {
	return []int{math.MinInt, -1 << 32, -256, -8, -2, -1, 0, 9, 10, 16, 255, 256, 257, 1 << 31, 1<<32 + 1, 1<<32 + 8, math.MaxInt}
}

func allNs() []int { return slices.Concat(wrongNs(), rightNs()) }

// good are values that a queue may have.
func good() []api.Value {
	return []api.Value{
		vInt(0), vInt(1), vInt(math.MinInt), vInt(math.MaxInt), vFloat(0), vFloat(1 << 63), vFloat(one), vFloat(nan),
		vText(""), vText("a"), vText(strings.Repeat("\x80", 64)),
	}
}

// bad are values that a queue may not have: nothing, and such as may not be.
func bad() []api.Value {
	return []api.Value{
		{}, {N: 1}, {F: one}, {S: "a"}, {S: strings.Repeat("v", 65)}, {Kind: 4}, {Kind: -1}, {Kind: 256}, {Kind: math.MinInt, N: 1},
		vText(strings.Repeat("v", 65)), vText(strings.Repeat("v", 1000)), vFloat(nan + 1), vFloat(math.MaxUint64),
		{Kind: api.VInt, F: one}, {Kind: api.VInt, S: strings.Repeat("v", 65)}, {Kind: api.VFloat, N: 1}, {Kind: api.VText, N: 1, S: "a"},
	}
}

// lists are values that a queue may have, none up to eleven of them, from each
// one on; and more than any queue has.
func lists() [][]api.Value {
	l, values := [][]api.Value{nil}, slices.Concat(good(), good())
	for length := range 12 {
		for from := range good() {
			l = append(l, values[from:from+length])
		}
	}
	same := slices.Repeat(ints(7), 8)
	return append(l, same, same[:2], slices.Repeat(good(), 100))
}

// wrong are lists with a value that no queue has, in each place, or with many.
func wrong() [][]api.Value {
	l := [][]api.Value{bad(), make([]api.Value, 1), make([]api.Value, 8), make([]api.Value, 1000)}
	for _, v := range bad() {
		for i := range 8 {
			m := good()[:8]
			m[i] = v
			l = append(l, m, m[i:i+1], m[:i+1], m[i:])
		}
	}
	return l
}

// right is Right by the chapter's words.
func right(n int, l []api.Value) bool {
	for _, v := range l {
		if value.Check(v) != api.OK || v.Kind == api.VNone {
			return false
		}
	}
	return slices.Contains(rightNs(), n) && len(l) <= n
}

// answer is what a call answers: where it has no such result, zero.
type answer struct {
	l []api.Value
	v api.Value
	e api.Errno
}

// push and pop are the calls by the chapter's words.
func push(n int, l []api.Value, v api.Value) answer {
	for _, x := range []struct {
		applies bool
		e       api.Errno
	}{
		{!right(n, l), api.ErrArg},
		{v.Kind == api.VNone, api.ErrArg},
		{value.Check(v) != api.OK, value.Check(v)},
		{len(l) == n, api.ErrFull},
	} {
		if x.applies {
			return answer{l: l, e: x.e}
		}
	}
	return answer{l: slices.Concat(l, []api.Value{v})}
}

func pop(n int, l []api.Value) answer {
	switch {
	case !right(n, l):
		return answer{l: l, e: api.ErrArg}
	case len(l) == 0:
		return answer{e: api.ErrEmpty}
	}
	return answer{l: l[1:], v: l[0]}
}

// The calls themselves.
func thePush(n int, v api.Value) func([]api.Value) answer {
	return func(l []api.Value) answer {
		m, e := queue.Push(n, l, v)
		return answer{l: m, e: e}
	}
}

func thePop(n int) func([]api.Value) answer {
	return func(l []api.Value) answer {
		m, v, e := queue.Pop(n, l)
		return answer{m, v, e}
	}
}

// spoil puts other values all over what an answer's list has, its spare room too.
func spoil(l []api.Value) {
	all := l[:cap(l)]
	for i := range all {
		all[i] = api.Value{Kind: 88, N: 88}
	}
}

// asks holds what the call answers of l against what it should, with and without
// spare room, and asks it to leave what it is given as it is, spare room too, to
// hand out no memory of it, nor of another answer, and to keep none.
func asks(t *testing.T, what string, l []api.Value, call func([]api.Value) answer, want answer) {
	t.Helper()
	given := roomy(l)
	for _, got := range []answer{call(given), call(slices.Clip(slices.Clone(l)))} {
		if !slices.Equal(got.l, want.l) || got.v != want.v || got.e != want.e {
			t.Fatalf("%s of %s = %s, not %s", what, short(l), short(got), short(want))
		}
	}
	got, other := call(given), call(given)
	spoil(other.l)
	if !slices.Equal(given[:len(l)+3], slices.Concat(l, []api.Value{marked, marked, marked})) {
		t.Fatalf("%s changes what it is given, or hands out memory of it: %s", what, short(l))
	}
	for i := range given {
		given[i] = marked
	}
	if !slices.Equal(got.l, want.l) {
		t.Fatalf("%s keeps what it is given, or hands out memory twice: %s", what, short(l))
	}
}

// P11.1

func TestRightKnown(t *testing.T) {
	text64, text65 := vText(strings.Repeat("v", 64)), vText(strings.Repeat("v", 65))
	known := []struct {
		n  int
		l  []api.Value
		is bool
	}{
		{1, nil, true},
		{8, []api.Value{}, true},
		{0, nil, false},
		{-1, nil, false},
		{9, nil, false},
		{math.MinInt, nil, false},
		{math.MaxInt, nil, false},
		{0, ints(1), false},
		{9, ints(1), false},
		{1, ints(1), true},
		{1, ints(1, 2), false},
		{2, ints(1, 2), true},
		{2, ints(2, 1), true},
		{2, ints(1, 1), true},
		{2, ints(1, 2, 3), false},
		{8, ints(1, 2, 3, 4, 5, 6, 7, 8), true},
		{7, ints(1, 2, 3, 4, 5, 6, 7, 8), false},
		{8, ints(1, 2, 3, 4, 5, 6, 7, 8, 9), false},
		{9, ints(1, 2, 3, 4, 5, 6, 7, 8, 9), false},
		{2, []api.Value{vFloat(one), vText("")}, true},
		{2, []api.Value{text64, text64}, true},
		{2, []api.Value{text65}, false},
		{2, []api.Value{text64, text65}, false},
		{2, []api.Value{vFloat(nan)}, true},
		{2, []api.Value{vFloat(nan + 1)}, false},
		{2, make([]api.Value, 1), false},
		{2, []api.Value{vInt(1), {}}, false},
		{2, []api.Value{{}, vInt(1)}, false},
		{2, []api.Value{{N: 1}}, false},
		{2, []api.Value{{Kind: 4}}, false},
		{2, []api.Value{{Kind: api.VInt, S: "a"}}, false},
	}
	for _, k := range known {
		if got := queue.Right(k.n, k.l); got != k.is {
			t.Errorf("Right(%d, %s) = %v", k.n, short(k.l), got)
		}
	}
}

func TestRightOfAny(t *testing.T) {
	for _, l := range slices.Concat(lists(), wrong()) {
		given := roomy(l)
		for _, n := range allNs() {
			if got, want := queue.Right(n, given), right(n, l); got != want {
				t.Fatalf("Right(%d, %s) = %v", n, short(l), got)
			}
		}
		if !slices.Equal(given[:len(l)+3], slices.Concat(l, []api.Value{marked, marked, marked})) {
			t.Fatalf("Right changes %s", short(l))
		}
	}
}

// TestRightOfLengths: a capacity counts how many values there may be, no more.
func TestRightOfLengths(t *testing.T) {
	for n := -20; n <= 20; n++ {
		for length := range 20 {
			want := 1 <= n && n <= 8 && length <= n
			if got := queue.Right(n, slices.Repeat(ints(5), length)); got != want {
				t.Fatalf("Right of %d values with the capacity %d = %v", length, n, got)
			}
		}
	}
}

// P11.2

func TestPushKnown(t *testing.T) {
	text64, text65 := vText(strings.Repeat("v", 64)), vText(strings.Repeat("v", 65))
	full := ints(1, 2)
	known := []struct {
		n    int
		l    []api.Value
		v    api.Value
		want answer
	}{
		{2, nil, vInt(1), answer{l: ints(1)}},
		{2, ints(1), vInt(2), answer{l: full}},
		{2, ints(2), vInt(1), answer{l: ints(2, 1)}},
		{2, ints(1), vInt(1), answer{l: ints(1, 1)}},
		{2, full, vInt(3), answer{l: full, e: api.ErrFull}},
		{3, full, vInt(3), answer{l: ints(1, 2, 3)}},
		{1, nil, text64, answer{l: []api.Value{text64}}},
		{1, ints(0), vInt(1), answer{l: ints(0), e: api.ErrFull}},
		{8, ints(1, 2, 3, 4, 5, 6, 7), vInt(8), answer{l: ints(1, 2, 3, 4, 5, 6, 7, 8)}},
		{8, ints(1, 2, 3, 4, 5, 6, 7, 8), vInt(9), answer{l: ints(1, 2, 3, 4, 5, 6, 7, 8), e: api.ErrFull}},
		{9, nil, vInt(1), answer{e: api.ErrArg}},
		{0, nil, vInt(1), answer{e: api.ErrArg}},
		{-1, full, vInt(1), answer{l: full, e: api.ErrArg}},
		{9, ints(1, 2, 3, 4, 5, 6, 7, 8), vInt(9), answer{l: ints(1, 2, 3, 4, 5, 6, 7, 8), e: api.ErrArg}},
		{1, full, vInt(3), answer{l: full, e: api.ErrArg}},
		{1, full, text65, answer{l: full, e: api.ErrArg}},
		{9, nil, text65, answer{e: api.ErrArg}},
		{2, make([]api.Value, 1), vInt(1), answer{l: make([]api.Value, 1), e: api.ErrArg}},
		{2, []api.Value{text65}, text65, answer{l: []api.Value{text65}, e: api.ErrArg}},
		{2, nil, api.Value{}, answer{e: api.ErrArg}},
		{2, nil, api.Value{N: 1}, answer{e: api.ErrArg}},
		{2, nil, api.Value{S: text65.S}, answer{e: api.ErrArg}},
		{2, full, api.Value{}, answer{l: full, e: api.ErrArg}},
		{2, nil, text65, answer{e: api.ErrLong}},
		{2, full, text65, answer{l: full, e: api.ErrLong}},
		{2, nil, vFloat(nan + 1), answer{e: api.ErrArg}},
		{2, full, vFloat(nan + 1), answer{l: full, e: api.ErrArg}},
		{2, full, api.Value{Kind: 4}, answer{l: full, e: api.ErrArg}},
		{2, full, api.Value{Kind: api.VInt, S: text65.S}, answer{l: full, e: api.ErrArg}},
	}
	for _, k := range known {
		asks(t, fmt.Sprintf("Push with %d of %s", k.n, short(k.v)), k.l, thePush(k.n, k.v), k.want)
	}
}

func TestPushOfAny(t *testing.T) {
	values := slices.Concat(good(), bad())
	for i, l := range slices.Concat(lists(), wrong()) {
		for j, n := range allNs() {
			v := values[(i+3*j)%len(values)]
			asks(t, fmt.Sprintf("Push with %d of %s", n, short(v)), l, thePush(n, v), push(n, l, v))
		}
	}
}

// TestPushOfEach takes each value, may it be or not, at each length up to full.
func TestPushOfEach(t *testing.T) {
	for _, v := range slices.Concat(good(), bad()) {
		for _, n := range allNs() {
			for length := range 10 {
				l := good()[:length]
				asks(t, fmt.Sprintf("Push with %d of %s", n, short(v)), l, thePush(n, v), push(n, l, v))
			}
		}
	}
}

// P11.3

func TestPopKnown(t *testing.T) {
	known := []struct {
		n    int
		l    []api.Value
		want answer
	}{
		{2, ints(1, 2), answer{l: ints(2), v: vInt(1)}},
		{2, ints(2, 1), answer{l: ints(1), v: vInt(2)}},
		{2, ints(1, 1), answer{l: ints(1), v: vInt(1)}},
		{2, ints(2), answer{v: vInt(2)}},
		{1, []api.Value{vText("a")}, answer{v: vText("a")}},
		{8, ints(8, 7, 6, 5, 4, 3, 2, 1), answer{l: ints(7, 6, 5, 4, 3, 2, 1), v: vInt(8)}},
		{8, ints(1, 2), answer{l: ints(2), v: vInt(1)}},
		{2, nil, answer{e: api.ErrEmpty}},
		{1, []api.Value{}, answer{e: api.ErrEmpty}},
		{0, nil, answer{e: api.ErrArg}},
		{-1, nil, answer{e: api.ErrArg}},
		{9, nil, answer{e: api.ErrArg}},
		{9, ints(1), answer{l: ints(1), e: api.ErrArg}},
		{1, ints(1, 2), answer{l: ints(1, 2), e: api.ErrArg}},
		{0, ints(1), answer{l: ints(1), e: api.ErrArg}},
		{2, make([]api.Value, 1), answer{l: make([]api.Value, 1), e: api.ErrArg}},
		{2, []api.Value{vInt(1), {}}, answer{l: []api.Value{vInt(1), {}}, e: api.ErrArg}},
		{2, []api.Value{vInt(1), vFloat(nan + 1)}, answer{l: []api.Value{vInt(1), vFloat(nan + 1)}, e: api.ErrArg}},
	}
	for _, k := range known {
		asks(t, fmt.Sprintf("Pop with %d", k.n), k.l, thePop(k.n), k.want)
	}
}

func TestPopOfAny(t *testing.T) {
	for _, l := range slices.Concat(lists(), wrong()) {
		for _, n := range allNs() {
			asks(t, fmt.Sprintf("Pop with %d", n), l, thePop(n), pop(n, l))
		}
	}
}

// P11.4

// run is a queue among calls: what came in, in its order, and how many left.
type run struct {
	n    int
	l    []api.Value
	came []api.Value
	left int
}

// push lets v come, if there is room.
func (r *run) push(t *testing.T, v api.Value) {
	t.Helper()
	l, e := queue.Push(r.n, r.l, v)
	if full := len(r.came)-r.left == r.n; (e == api.ErrFull) != full || e != api.OK && !full {
		t.Fatalf("Push with %d behind %s, of which %d left: %d", r.n, short(r.came), r.left, e)
	}
	if e == api.OK {
		r.came = append(r.came, v)
	}
	r.l = l
	r.holds(t)
}

// pop lets the value leave that came ahead of all that haven't left.
func (r *run) pop(t *testing.T) {
	t.Helper()
	l, v, e := queue.Pop(r.n, r.l)
	want, wantE := api.Value{}, api.ErrEmpty
	if r.left < len(r.came) {
		want, wantE = r.came[r.left], api.OK
		r.left++
	}
	if v != want || e != wantE {
		t.Fatalf("Pop with %d behind %s, of which %d left: %s, %d", r.n, short(r.came), r.left, short(v), e)
	}
	r.l = l
	r.holds(t)
}

// holds asks that the queue may be, and that just those are in it that came and
// haven't left.
func (r *run) holds(t *testing.T) {
	t.Helper()
	if !queue.Right(r.n, r.l) || !slices.Equal(r.l, r.came[r.left:]) {
		t.Fatalf("behind %s, of which %d left, there is %s", short(r.came), r.left, short(r.l))
	}
}

// empty lets all leave, and one more.
func (r *run) empty(t *testing.T) {
	t.Helper()
	for range r.n + 1 {
		r.pop(t)
	}
	if r.left != len(r.came) {
		t.Fatalf("of %s %d left", short(r.came), r.left)
	}
}

// TestAllShortRuns takes all rows of ten pushes and pops at each capacity.
func TestAllShortRuns(t *testing.T) {
	for _, n := range rightNs() {
		for bits := range 1 << 10 {
			r := &run{n: n}
			for i := range 10 {
				if bits>>i&1 == 1 {
					r.push(t, vInt(i))
				} else {
					r.pop(t)
				}
			}
			r.empty(t)
		}
	}
}

// TestRunsAtWill takes values of all kinds, the same ones again too, while queues
// fill and empty by turns.
func TestRunsAtWill(t *testing.T) {
	x := rand.New(rand.NewSource(11))
	for _, n := range rightNs() {
		for range 20 {
			r := &run{n: n}
			for i := range 200 {
				mostly := i / 25 % 2
				if x.Intn(4) == 0 {
					mostly = 1 - mostly
				}
				if mostly == 0 {
					r.push(t, good()[x.Intn(len(good()))])
				} else {
					r.pop(t)
				}
			}
			r.empty(t)
		}
	}
}

// TestRefusedStays: what is refused leaves the queue as it was, for what comes
// behind it too.
func TestRefusedStays(t *testing.T) {
	for _, n := range rightNs() {
		r := &run{n: n}
		for i := range n + 1 {
			for _, v := range bad() {
				l, e := queue.Push(n, r.l, v)
				if e == api.OK || e == api.ErrFull {
					t.Fatalf("Push of %s: %d", short(v), e)
				}
				r.l = l
				r.holds(t)
			}
			r.push(t, vInt(i))
		}
		r.empty(t)
	}
}

func ExamplePush() {
	l, _ := queue.Push(2, nil, api.Value{Kind: api.VInt, N: 1})
	l, e := queue.Push(2, l, api.Value{Kind: api.VInt, N: 2})
	fmt.Println(l, e)
	l, e = queue.Push(2, l, api.Value{Kind: api.VInt, N: 3})
	fmt.Println(l, e)
	// Output:
	// [{1 1 0 } {1 2 0 }] 0
	// [{1 1 0 } {1 2 0 }] 6
}

func ExamplePop() {
	l, _ := queue.Push(1, nil, api.Value{Kind: api.VText, S: "a"})
	l, v, e := queue.Pop(1, l)
	fmt.Println(l, v, e)
	l, v, e = queue.Pop(1, l)
	fmt.Println(l, v, e)
	// Output:
	// [] {3 0 0 a} 0
	// [] {0 0 0 } 10
}
