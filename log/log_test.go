package log_test

import (
	"fmt"
	"math"
	"math/rand"
	"slices"
	"strings"
	"testing"

	"phalanx/api"
	"phalanx/log"
)

// answer is what a call answers of a log: where it has no such result, zero.
type answer struct {
	l  api.Log
	e  api.Event
	is bool
}

// call is a call that answers a log.
type call func(l api.Log) answer

func theAdd(from int, events []api.Event, room int) call {
	return func(l api.Log) answer { return answer{l: log.Add(l, from, events, room)} }
}

func theStay(n int) call {
	return func(l api.Log) answer { return answer{l: log.Stay(l, n)} }
}

func theTake(l api.Log) answer {
	m, e, is := log.Take(l)
	return answer{m, e, is}
}

func theTrim(n int) call {
	return func(l api.Log) answer { return answer{l: log.Trim(l, n)} }
}

// like tells whether the answers are alike.
func (a answer) like(b answer) bool { return same(a.l, b.l) && a.e == b.e && a.is == b.is }

// asks holds a call of l against what it should answer, and asks it to leave l as it
// is, spare room too, to hand out no memory of it, nor of another answer, and to keep
// none.
func asks(t *testing.T, what string, l api.Log, do call, want answer) {
	t.Helper()
	l = clone(l)
	want.l = clone(want.l)
	given := l
	given.Events = spare(l.Events)
	was := slices.Clone(wide(given.Events))
	got := do(given)
	if !got.like(want) {
		t.Fatalf("%s of %s: %s, not %s", what, short(l), short(got), short(want))
	}
	if other := do(clone(l)); !other.like(want) {
		t.Fatalf("%s of %s hangs on spare room: %s", what, short(l), short(other))
	}
	spoil(do(given).l.Events)
	if !slices.Equal(wide(given.Events), was) {
		t.Fatalf("%s of %s changes what it is given, or hands out memory of it", what, short(l))
	}
	spoil(given.Events)
	if !got.like(want) {
		t.Fatalf("%s of %s keeps what it is given, or hands out memory twice", what, short(l))
	}
}

// P21.1

func TestEndKnown(t *testing.T) {
	known := []struct {
		l    api.Log
		want int
	}{
		{api.Log{}, 0}, {logOf(0, 1, 0, 0), 1}, {logOf(0, 16, 3, 2), 16}, {logOf(5, 0, 0, 0), 5}, {logOf(5, 3, 1, 0), 8}, {logOf(7, 40, 39, 1), 47},
		{logOf(1<<62, 0, 0, 0), 1 << 62}, {logOf(1<<62, 16, 16, 16), 1<<62 + 16}, {logOf(1<<62, 1000, 0, 0), 1<<62 + 1000}, {logOf(1<<32+1, 2, 0, 0), 1<<32 + 3},
	}
	for _, k := range known {
		if got := log.End(k.l); got != k.want {
			t.Errorf("End(%s) = %d, not %d", short(k.l), got, k.want)
		}
	}
}

func TestEndOfAny(t *testing.T) {
	for _, l := range append(good(), over()...) {
		if got := log.End(l); got != end(l) {
			t.Fatalf("End(%s) = %d, not %d", short(l), got, end(l))
		}
	}
}

func TestRightKnown(t *testing.T) {
	bent := logOf(0, 3, 2, 1)
	bent.Events[1] = api.Event{}
	known := []struct {
		l  api.Log
		is bool
	}{
		{api.Log{}, true}, {logOf(0, 3, 2, 1), true}, {logOf(0, 3, 3, 3), true}, {logOf(0, 3, 0, 0), true}, {logOf(9, 0, 0, 0), true},
		{logOf(0, 16, 16, 16), true}, {logOf(0, 17, 16, 16), false}, {logOf(0, 17, 0, 0), false},
		{logOf(0, 3, 4, 1), false}, {logOf(0, 3, 1, 2), false}, {logOf(0, 3, 3, 4), false}, {logOf(0, 3, 4, 4), false}, {logOf(0, 0, 1, 0), false},
		{logOf(9, 3, 2, -1), false}, {logOf(9, 3, -1, -1), false}, {logOf(9, 3, -1, 0), false}, {api.Log{Base: 9}, false}, {api.Log{Base: 9, Commit: 9}, false},
		{logOf(-1, 0, 0, 0), false}, {logOf(-3, 0, 3, 3), false}, {api.Log{Base: -1, Events: row(0, 2)}, false},
		{logOf(1<<62, 0, 0, 0), true}, {logOf(1<<62, 16, 16, 16), true}, {logOf(1<<62+1, 0, 0, 0), false}, {logOf(1<<62+1, 3, 2, 1), false}, {logOf(math.MaxInt, 0, 0, 0), false},
		{api.Log{Base: math.MaxInt, Done: math.MaxInt, Commit: math.MaxInt, Events: row(0, 3)}, false},
		{api.Log{Base: math.MinInt, Done: math.MinInt, Commit: math.MinInt}, false},
		{api.Log{Events: bad()[:1]}, false}, {bent, false},
		{api.Log{Events: slices.Repeat([]api.Event{at(1)}, 16)}, true},
	}
	for _, k := range known {
		if got := log.Right(k.l); got != k.is {
			t.Errorf("Right(%s) = %t", short(k.l), got)
		}
	}
}

func TestRightOfAny(t *testing.T) {
	for _, l := range good() {
		if !log.Right(l) || !right(l) {
			t.Fatalf("Right(%s) = false", short(l))
		}
	}
	for _, l := range wrong() {
		if log.Right(l) || right(l) {
			t.Fatalf("Right(%s) = true", short(l))
		}
	}
}

// TestRightOfEach: Commit and Done anywhere about five events.
func TestRightOfEach(t *testing.T) {
	for _, base := range []int{0, 1, 7, 1<<62 - 1, 1 << 62, 1<<62 + 1, -1, -2} {
		for commit := -2; commit <= 7; commit++ {
			for done := -2; done <= 7; done++ {
				l := api.Log{Base: base, Commit: base + commit, Done: base + done, Events: row(0, 5)}
				if got := log.Right(l); got != right(l) {
					t.Fatalf("Right(%s) = %t", short(l), got)
				}
			}
		}
	}
}

func TestHasKnown(t *testing.T) {
	open, expire, touch := api.Cmd{Kind: api.COpen}, api.Cmd{Kind: api.CExpire}, api.Cmd{Kind: api.CTouch}
	opened := api.Log{Base: 4, Commit: 4, Done: 4, Events: []api.Event{event(0, 1, 1, touch), event(1, 2, 0, open)}}
	expired := api.Log{Events: []api.Event{event(1, 2, 0, expire), event(3, 4, 5, touch)}}
	both := api.Log{Events: []api.Event{event(1, 2, 0, expire), event(1, 2, 0, open)}}
	known := []struct {
		what string
		l    api.Log
		e    api.Event
		is   bool
	}{
		{"nothing", api.Log{}, event(0, 1, 1, touch), false},
		{"no event", api.Log{}, api.Event{}, false},
		{"the first one", opened, event(0, 1, 1, touch), true},
		{"another command", opened, event(0, 1, 1, api.Cmd{Kind: api.CLock, Name: "l"}), true},
		{"a command that may not be", opened, event(0, 1, 1, api.Cmd{Kind: -3}), true},
		{"another client", opened, event(1, 1, 1, touch), false},
		{"another session", opened, event(0, 2, 1, touch), false},
		{"another request", opened, event(0, 1, 2, touch), false},
		{"parts of both", opened, event(0, 2, 0, touch), false},
		{"an opening", opened, event(1, 2, 0, open), true},
		{"an end, of an opening's name", opened, event(1, 2, 0, expire), false},
		{"an end, of a request's name", opened, event(0, 1, 1, expire), false},
		{"an end", expired, event(1, 2, 0, expire), true},
		{"an end with more in it", expired, event(1, 2, 0, api.Cmd{Kind: api.CExpire, N: 3}), true},
		{"an opening, of an end's name", expired, event(1, 2, 0, open), false},
		{"another one, of an end's name", expired, event(1, 2, 0, touch), false},
		{"the last one", expired, event(3, 4, 5, open), true},
		{"an opening behind an end", both, event(1, 2, 0, open), true},
		{"an end ahead of an opening", both, event(1, 2, 0, expire), true},
		{"a name with far numbers", expired, event(math.MinInt, math.MaxInt, 1<<32, touch), false},
		{"a number with more bits", opened, event(1<<32, 1, 1, touch), false},
	}
	for _, k := range known {
		if got := log.Has(k.l, k.e); got != k.is {
			t.Errorf("%s: Has = %t", k.what, got)
		}
	}
}

// TestHasOfAny asks for each event of the row, and for such as are like it.
func TestHasOfAny(t *testing.T) {
	for _, l := range good() {
		given := l
		given.Events = spare(l.Events)
		was := slices.Clone(wide(given.Events))
		for n := l.Base - 2; n < end(l)+2; n++ {
			e, other, expire := at(max(n, 0)), at(max(n, 0)), at(max(n, 0))
			other.Cmd = api.Cmd{Kind: api.COpen}
			expire.Cmd = api.Cmd{Kind: api.CExpire}
			for _, x := range []api.Event{e, other, expire, marks()[0]} {
				if got := log.Has(given, x); got != has(l, x) {
					t.Fatalf("Has(%s; %s) = %t", short(l), short(x), got)
				}
			}
		}
		if !slices.Equal(wide(given.Events), was) {
			t.Fatalf("Has changes what it is given: %s", short(l))
		}
	}
}

// P21.2

func TestAddKnown(t *testing.T) {
	a, b, c, no := at(0), at(1), at(2), bad()[0]
	list := func(l ...api.Event) []api.Event { return l }
	known := []struct {
		what   string
		l      api.Log
		from   int
		events []api.Event
		room   int
		want   []api.Event
	}{
		{"two", api.Log{}, 0, list(a, b), 2, list(a, b)},
		{"one more than there is room for", logOf(0, 2, 0, 0), 1, list(b, c), 2, list(a, b)},
		{"one that is had, one that isn't", logOf(0, 2, 0, 0), 1, list(b, c), 3, list(a, b, c)},
		{"all from the first one on", logOf(0, 2, 0, 0), 0, list(a, b, c), 3, list(a, b, c)},
		{"such as are had", logOf(0, 2, 0, 0), 0, list(a, b), 16, list(a, b)},
		{"others of numbers that are had", logOf(0, 2, 0, 0), 0, list(c, c), 16, list(a, b)},
		{"at the end", logOf(0, 2, 0, 0), 2, list(c), 16, list(a, b, c)},
		{"above the end", logOf(0, 2, 0, 0), 3, list(c), 16, list(a, b)},
		{"far above the end", logOf(0, 2, 0, 0), math.MaxInt, list(c), 16, list(a, b)},
		{"below 0", api.Log{}, -1, list(c, a, b), 16, nil},
		{"far below 0", logOf(0, 2, 0, 0), math.MinInt, list(c, a, b), 16, list(a, b)},
		{"nothing", logOf(0, 2, 0, 0), 2, nil, 16, list(a, b)},
		{"no room", api.Log{}, 0, list(a, b), 0, nil},
		{"less than no room", api.Log{}, 0, list(a, b), -1, nil},
		{"room for one", api.Log{}, 0, list(a, b, c), 1, list(a)},
		{"less room than there are events", logOf(0, 2, 0, 0), 2, list(c), 1, list(a, b)},
		{"all room", api.Log{}, 0, list(a, b, c), math.MaxInt, list(a, b, c)},
		{"one that may not be", api.Log{}, 0, list(no), 16, nil},
		{"one that may not be, and one behind it", api.Log{}, 0, list(a, no, b), 16, list(a)},
		{"one that may not be, and is had", logOf(0, 1, 0, 0), 0, list(no, b), 16, list(a, b)},
		{"one twice", api.Log{}, 0, list(a, a), 16, list(a, a)},
		{"one that is there already", logOf(0, 2, 0, 0), 2, list(a), 16, list(a, b, a)},
		{"below the base", logOf(7, 1, 0, 0), 0, row(0, 10), 16, row(7, 3)},
		{"up to the base", logOf(7, 0, 0, 0), 0, row(0, 7), 16, nil},
		{"over the base by one", logOf(7, 0, 0, 0), 3, row(3, 5), 16, row(7, 1)},
		{"seventeen", api.Log{}, 0, row(0, 20), 17, row(0, 17)},
		{"sixteen", api.Log{}, 0, row(0, 20), 16, row(0, 16)},
		{"more than seventeen", logOf(0, 17, 3, 2), 17, row(17, 5), 20, row(0, 20)},
		{"at the greatest base", logOf(1<<62, 0, 0, 0), 1<<62 - 1, row(1<<62-1, 3), 16, row(1<<62, 2)},
	}
	for _, k := range known {
		want := k.l
		want.Events = k.want
		asks(t, k.what, k.l, theAdd(k.from, k.events, k.room), answer{l: want})
	}
}

// addsOf are the events that Add is called with: none, some, many of the row from
// there on, such as may not be among them.
func addsOf(from int) [][]api.Event {
	from = max(from, 0)
	long := row(from, 50)
	bent, late := row(from, 6), row(from, 20)
	bent[2], late[17] = bad()[3], bad()[5]
	return [][]api.Event{nil, long[:1], long[:2], long[:17], long, bent, late, bad()}
}

func TestAddOfAny(t *testing.T) {
	random := rand.New(rand.NewSource(21))
	for _, l := range append(few(good(), 3), few(over(), 7)...) {
		for _, from := range numbers(l) {
			for _, events := range addsOf(from) {
				c := counts(l)
				room := c[random.Intn(len(c))]
				if got, want := log.Add(l, from, events, room), add(l, from, events, room); !same(got, want) {
					t.Fatalf("Add(%s; %d, %s, %d) = %s, not %s", short(l), from, short(events), room, short(got), short(want))
				}
			}
		}
	}
}

// TestAddOfEach: all numbers, lengths and rooms about a log's places.
func TestAddOfEach(t *testing.T) {
	for _, l := range []api.Log{{}, logOf(0, 3, 2, 1), logOf(4, 0, 0, 0), logOf(4, 2, 2, 2), logOf(1, 15, 0, 0), logOf(2, 16, 4, 0), logOf(2, 18, 4, 0), logOf(1<<62, 2, 0, 0)} {
		for from := l.Base - 4; from <= end(l)+2; from++ {
			for count := range len(l.Events) + 5 {
				events := row(max(from, 0), count)
				for _, room := range counts(l) {
					asks(t, "Add", l, theAdd(from, events, room), answer{l: add(l, from, events, room)})
				}
			}
		}
	}
}

// TestAddOfEachBad: an event that may not be, in each place.
func TestAddOfEachBad(t *testing.T) {
	l := logOf(3, 2, 1, 0)
	for _, e := range bad() {
		for i := range 6 {
			events := row(3, 6)
			events[i] = e
			asks(t, "Add", l, theAdd(3, events, 16), answer{l: add(l, 3, events, 16)})
		}
	}
}

// TestAddLeavesEvents: the events that come are left as they are, and none of their
// memory is in the log.
func TestAddLeavesEvents(t *testing.T) {
	for _, l := range []api.Log{{}, logOf(0, 3, 2, 1), logOf(2, 1, 1, 1)} {
		for count := range 6 {
			events := spare(row(l.Base, count))
			was := slices.Clone(wide(events))
			want := add(l, l.Base, was[:count], 16)
			got := log.Add(l, l.Base, events, 16)
			spoil(log.Add(l, l.Base, events, 16).Events)
			if !slices.Equal(wide(events), was) {
				t.Fatalf("Add(%s) changes the events, or hands out memory of them", short(l))
			}
			spoil(events)
			if !same(got, want) {
				t.Fatalf("Add(%s) keeps the events", short(l))
			}
		}
	}
}

// P21.3

func TestStayKnown(t *testing.T) {
	known := []struct {
		l       api.Log
		n, want int
	}{
		{logOf(0, 3, 0, 0), 2, 2}, {logOf(0, 3, 0, 0), 3, 3}, {logOf(0, 3, 0, 0), 4, 3}, {logOf(0, 3, 0, 0), math.MaxInt, 3}, {logOf(0, 3, 0, 0), 0, 0}, {logOf(0, 3, 0, 0), -1, 0},
		{logOf(0, 3, 2, 1), 1, 2}, {logOf(0, 3, 2, 1), 2, 2}, {logOf(0, 3, 2, 1), 3, 3}, {logOf(0, 3, 2, 1), math.MinInt, 2}, {logOf(0, 3, 3, 0), 2, 3},
		{logOf(7, 3, 0, 0), 3, 7}, {logOf(7, 3, 0, 0), 8, 8}, {logOf(7, 3, 0, 0), 10, 10}, {logOf(7, 3, 0, 0), 11, 10}, {logOf(7, 0, 0, 0), 9, 7},
		{logOf(0, 18, 3, 0), 17, 17}, {logOf(0, 18, 3, 0), 18, 18}, {logOf(0, 18, 3, 0), 19, 18}, {logOf(0, 18, 18, 0), 17, 18},
		{logOf(1<<62, 16, 0, 0), 1<<62 + 16, 1<<62 + 16}, {logOf(1<<62, 16, 0, 0), math.MaxInt, 1<<62 + 16}, {logOf(0, 3, 0, 0), 1<<32 + 1, 3},
	}
	for _, k := range known {
		want := k.l
		want.Commit = k.want
		asks(t, fmt.Sprintf("Stay %d", k.n), k.l, theStay(k.n), answer{l: want})
	}
}

func TestStayOfAny(t *testing.T) {
	for _, l := range append(good(), over()...) {
		for _, n := range numbers(l) {
			asks(t, fmt.Sprintf("Stay %d", n), l, theStay(n), answer{l: stay(l, n)})
		}
	}
}

func TestTakeKnown(t *testing.T) {
	known := []struct {
		l    api.Log
		done int
		e    api.Event
		is   bool
	}{
		{api.Log{}, 0, api.Event{}, false}, {logOf(0, 3, 0, 0), 0, api.Event{}, false}, {logOf(0, 3, 1, 1), 1, api.Event{}, false}, {logOf(0, 3, 3, 3), 3, api.Event{}, false},
		{logOf(0, 3, 1, 0), 1, at(0), true}, {logOf(0, 3, 2, 1), 2, at(1), true}, {logOf(0, 3, 3, 2), 3, at(2), true}, {logOf(0, 3, 3, 0), 1, at(0), true},
		{logOf(7, 0, 0, 0), 7, api.Event{}, false}, {logOf(7, 3, 0, 0), 7, api.Event{}, false}, {logOf(7, 3, 2, 0), 8, at(7), true}, {logOf(7, 3, 3, 2), 10, at(9), true},
		{logOf(0, 16, 16, 15), 16, at(15), true}, {logOf(1<<62, 16, 16, 15), 1<<62 + 16, at(1<<62 + 15), true}, {logOf(1<<62, 16, 16, 16), 1<<62 + 16, api.Event{}, false},
	}
	for _, k := range known {
		want := answer{l: k.l, e: k.e, is: k.is}
		want.l.Done = k.done
		asks(t, "Take", k.l, theTake, want)
	}
}

func TestTakeOfAny(t *testing.T) {
	for _, l := range good() {
		m, e, is := take(l)
		asks(t, "Take", l, theTake, answer{m, e, is})
	}
}

func TestTrimKnown(t *testing.T) {
	known := []struct {
		l             api.Log
		n, base, left int
	}{
		{logOf(0, 3, 2, 2), 5, 2, 1}, {logOf(0, 3, 2, 2), 2, 2, 1}, {logOf(0, 3, 2, 2), 1, 1, 2}, {logOf(0, 3, 2, 2), 0, 0, 3}, {logOf(0, 3, 2, 2), -1, 0, 3},
		{logOf(0, 3, 3, 1), 2, 1, 2}, {logOf(0, 3, 3, 1), 3, 1, 2}, {logOf(0, 3, 3, 0), 3, 0, 3}, {logOf(0, 3, 3, 3), 3, 3, 0}, {logOf(0, 3, 3, 3), math.MaxInt, 3, 0},
		{logOf(0, 3, 3, 3), math.MinInt, 0, 3}, {api.Log{}, 5, 0, 0}, {api.Log{}, -5, 0, 0}, {logOf(7, 0, 0, 0), 3, 7, 0}, {logOf(7, 0, 0, 0), 9, 7, 0},
		{logOf(7, 3, 2, 2), 3, 7, 3}, {logOf(7, 3, 2, 2), 7, 7, 3}, {logOf(7, 3, 2, 2), 8, 8, 2}, {logOf(7, 3, 2, 2), 9, 9, 1}, {logOf(7, 3, 2, 2), 10, 9, 1}, {logOf(7, 3, 2, 2), 1<<32 + 8, 9, 1},
		{logOf(0, 16, 16, 16), 16, 16, 0}, {logOf(0, 16, 16, 16), 15, 15, 1}, {logOf(1<<62, 16, 16, 16), math.MaxInt, 1<<62 + 16, 0}, {logOf(1<<62, 16, 16, 16), 1<<62 + 1, 1<<62 + 1, 15},
	}
	for _, k := range known {
		want := k.l
		want.Base, want.Events = k.base, row(k.base, k.left)
		asks(t, fmt.Sprintf("Trim %d", k.n), k.l, theTrim(k.n), answer{l: want})
	}
}

func TestTrimOfAny(t *testing.T) {
	for _, l := range good() {
		for _, n := range numbers(l) {
			asks(t, fmt.Sprintf("Trim %d", n), l, theTrim(n), answer{l: trim(l, n)})
		}
	}
}

// P21.4

// parts holds Part of l against what it should answer, and asks it to leave l as it
// is, to hand out no memory of it, nor of another answer, and to keep none.
func parts(t *testing.T, l api.Log, from, most, wantAt int, want []api.Event) {
	t.Helper()
	given := l
	given.Events = spare(l.Events)
	was := slices.Clone(wide(given.Events))
	at, got := log.Part(given, from, most)
	if at != wantAt || !slices.Equal(got, want) {
		t.Fatalf("Part(%s; %d, %d) = %d, %s, not %d, %s", short(l), from, most, at, short(got), wantAt, short(want))
	}
	_, other := log.Part(given, from, most)
	spoil(other)
	if !slices.Equal(wide(given.Events), was) {
		t.Fatalf("Part(%s; %d, %d) changes what it is given, or hands out memory of it", short(l), from, most)
	}
	spoil(given.Events)
	if !slices.Equal(got, want) {
		t.Fatalf("Part(%s; %d, %d) keeps what it is given, or hands out memory twice", short(l), from, most)
	}
}

func TestPartKnown(t *testing.T) {
	three, behind := logOf(0, 3, 2, 1), logOf(7, 3, 2, 1)
	known := []struct {
		l          api.Log
		from, most int
		at, count  int
	}{
		{three, 1, 1, 1, 1}, {three, 0, 3, 0, 3}, {three, 0, 2, 0, 2}, {three, 1, 9, 1, 2}, {three, 2, 1, 2, 1}, {three, 2, 0, 2, 0}, {three, 1, -1, 1, 0},
		{three, 3, 1, 3, 0}, {three, 4, 1, 3, 0}, {three, 4, 0, 3, 0}, {three, math.MaxInt, 2, 3, 0}, {three, -1, 2, 0, 2}, {three, -1, 0, 0, 0}, {three, math.MinInt, math.MaxInt, 0, 3}, {three, math.MinInt, math.MinInt, 0, 0},
		{three, 0, math.MaxInt, 0, 3}, {three, 1, math.MinInt, 1, 0}, {three, 0, 1<<32 + 1, 0, 3}, {three, 1<<32 + 1, 3, 3, 0},
		{behind, 0, 1, 7, 1}, {behind, 6, 2, 7, 2}, {behind, 7, 16, 7, 3}, {behind, 8, 16, 8, 2}, {behind, 9, 16, 9, 1}, {behind, 10, 16, 10, 0}, {behind, 11, 16, 10, 0}, {behind, 3, -5, 7, 0},
		{api.Log{}, 0, 5, 0, 0}, {api.Log{}, 3, 5, 0, 0}, {api.Log{}, -3, 5, 0, 0}, {logOf(9, 0, 0, 0), 0, 5, 9, 0}, {logOf(9, 0, 0, 0), 9, 5, 9, 0}, {logOf(9, 0, 0, 0), 12, 5, 9, 0},
		{logOf(0, 16, 0, 0), 0, 16, 0, 16}, {logOf(0, 16, 0, 0), 0, 15, 0, 15}, {logOf(0, 16, 0, 0), 15, 15, 15, 1},
		{logOf(1<<62, 16, 0, 0), 0, 3, 1 << 62, 3}, {logOf(1<<62, 16, 0, 0), 1<<62 + 15, 3, 1<<62 + 15, 1}, {logOf(1<<62, 16, 0, 0), math.MaxInt, 3, 1<<62 + 16, 0},
	}
	for _, k := range known {
		parts(t, k.l, k.from, k.most, k.at, row(k.at, k.count))
	}
}

func TestPartOfAny(t *testing.T) {
	for _, l := range few(good(), 3) {
		for i, from := range numbers(l) {
			for _, most := range few(counts(l)[i%2:], 2) {
				at, want := part(l, from, most)
				parts(t, l, from, most, at, want)
			}
		}
	}
}

// P21.5

func TestAgreedAndAllKnown(t *testing.T) {
	known := []struct {
		counts      []int
		agreed, all int
	}{
		{nil, 0, 0}, {[]int{}, 0, 0}, {[]int{3, 1, 2}, 2, 1}, {[]int{3, 1}, 1, 1}, {[]int{1, 3}, 1, 1}, {[]int{7}, 7, 7}, {[]int{0}, 0, 0}, {[]int{-1}, 0, 0}, {[]int{math.MinInt}, 0, 0}, {[]int{math.MaxInt}, math.MaxInt, math.MaxInt},
		{[]int{5, 5, 1}, 5, 1}, {[]int{5, 1, 1}, 1, 1}, {[]int{5, 4, 3, 2}, 3, 2}, {[]int{5, 4, 3, 2, 1}, 3, 1}, {[]int{9, 9, 0, 0}, 0, 0}, {[]int{9, 9, 9, 0}, 9, 0}, {[]int{9, 9, 9, -1, -1}, 9, 0},
		{[]int{9, 9, -1, -1}, 0, 0}, {[]int{9, 9, -1, -1, -1}, 0, 0}, {[]int{9, 8, -1}, 8, 0}, {[]int{9, -1, -2}, 0, 0}, {[]int{-1, 9}, 0, 0}, {[]int{-3, -3, -3}, 0, 0}, {[]int{2, -3, 2}, 2, 0},
		{[]int{1, 2, 3, 4, 5, 6, 7}, 4, 1}, {[]int{7, 7, 7, 7, 1, 2, 3}, 7, 1}, {[]int{7, 7, 7, 4, 1, 2, 3}, 4, 1}, {[]int{1, 1, 1, 2, 2, 2}, 1, 1}, {[]int{1, 1, 2, 2, 2, 2}, 2, 1},
		{[]int{1 << 40, 1<<40 + 1, 1 << 39}, 1 << 40, 1 << 39}, {[]int{math.MaxInt, math.MinInt, 3}, 3, 0}, {[]int{math.MaxInt, math.MaxInt, math.MinInt}, math.MaxInt, 0}, {[]int{1<<32 + 5, 6, 6}, 6, 6},
	}
	for _, k := range known {
		if agreed, all := log.Agreed(k.counts), log.All(k.counts); agreed != k.agreed || all != k.all {
			t.Errorf("Agreed and All of %v: %d, %d, not %d, %d", k.counts, agreed, all, k.agreed, k.all)
		}
	}
}

// counted holds Agreed and All against what they should answer, and asks them to
// leave the counts as they are, spare room too.
func counted(t *testing.T, l []int) {
	t.Helper()
	room := []int{-77, 77, 0}
	given := slices.Concat(l, room)
	if got := log.Agreed(given[:len(l)]); got != agreed(l) {
		t.Fatalf("Agreed(%s) = %d, not %d", short(l), got, agreed(l))
	}
	if got := log.All(given[:len(l)]); got != all(l) {
		t.Fatalf("All(%s) = %d, not %d", short(l), got, all(l))
	}
	if !slices.Equal(given, slices.Concat(l, room)) {
		t.Fatalf("Agreed or All changes what it is given: %s", short(l))
	}
}

// rows are all rows of so many of these numbers.
func rows(numbers []int, length int) [][]int {
	if length == 0 {
		return [][]int{{}}
	}
	l := [][]int{}
	for _, head := range rows(numbers, length-1) {
		for _, n := range numbers {
			l = append(l, append(slices.Clone(head), n))
		}
	}
	return l
}

func TestAgreedAndAllOfAny(t *testing.T) {
	for length, numbers := range [][]int{
		{}, {math.MinInt, -1 << 32, -2, -1, 0, 1, 2, 3, 1<<32 + 1, math.MaxInt - 1, math.MaxInt}, {math.MinInt, -2, -1, 0, 1, 2, 3, 1<<32 + 1, math.MaxInt},
		{math.MinInt, -2, -1, 0, 1, 2, 3, 1<<32 + 1, math.MaxInt}, {math.MinInt, -1, 0, 1, 2, math.MaxInt}, {-1, 0, 1, 2, 3}, {-1, 0, 1, 2}, {-1, 0, 5},
	} {
		for _, l := range rows(numbers, length) {
			counted(t, l)
		}
	}
}

func TestAgreedAndAllOfMany(t *testing.T) {
	random := rand.New(rand.NewSource(215))
	for range 300 {
		l := make([]int, random.Intn(200))
		for i := range l {
			l[i] = random.Intn(1+random.Intn(300)) - random.Intn(1+random.Intn(300))
		}
		counted(t, l)
	}
	l := random.Perm(300000)
	if got := log.Agreed(l); got != 149999 {
		t.Errorf("Agreed of 300000 counts = %d", got)
	}
	if got := log.Agreed(l[:0]); got != 0 || log.All(l) != 0 {
		t.Errorf("Agreed of none = %d", got)
	}
}

// TestRawEnds: no log, whatever it holds, makes a call panic, or hang.
func TestRawEnds(t *testing.T) {
	for _, l := range wrong() {
		log.End(l)
		log.Has(l, at(1))
		log.Take(l)
		for _, n := range numbers(l) {
			log.Add(l, n, row(0, 3), 3)
			log.Stay(l, n)
			log.Trim(l, n)
			log.Part(l, n, 3)
			log.Part(l, 3, n)
		}
	}
}

// named are the names of a log's events, in few words.
func named(events []api.Event) string {
	l := []string{}
	for _, e := range events {
		l = append(l, fmt.Sprintf("%d.%d.%d", e.Ref.Client, e.Ref.Epoch, e.Ref.Req))
	}
	return strings.Join(l, " ")
}

func Example() {
	a, b, c := event(0, 1, 1, api.Cmd{Kind: api.CTouch}), event(1, 1, 1, api.Cmd{Kind: api.CTouch}), event(2, 1, 1, api.Cmd{Kind: api.CTouch})
	l := log.Add(api.Log{}, 0, []api.Event{a, b}, 3)
	l = log.Add(l, 1, []api.Event{b, c}, 3)
	l = log.Stay(l, log.Agreed([]int{3, 1, 2}))
	for m, e, is := log.Take(l); is; m, e, is = log.Take(l) {
		fmt.Println("done:", named([]api.Event{e}))
		l = m
	}
	l = log.Trim(l, 5)
	from, events := log.Part(l, 0, 16)
	fmt.Println(from, named(events), log.End(l))
	// Output:
	// done: 0.1.1
	// done: 1.1.1
	// 2 2.1.1 3
}
