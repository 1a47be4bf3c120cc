package log_test

import (
	"math"
	"slices"
	"strings"

	"phalanx/api"
)

// text and number are values.
func text(s string) api.Value { return api.Value{Kind: api.VText, S: s} }
func number(n int) api.Value  { return api.Value{Kind: api.VInt, N: n} }

// event is an event.
func event(client, epoch, req int, c api.Cmd) api.Event {
	return api.Event{Ref: api.Ref{Client: client, Epoch: epoch, Req: req}, Cmd: c}
}

// at is the event number n of the row of which all logs here have parts: no two are
// alike.
func at(n int) api.Event {
	client, epoch := n%5, 1+n/5
	switch n % 7 {
	case 0:
		return event(client, epoch, 0, api.Cmd{Kind: api.COpen})
	case 3:
		return event(client, epoch, 0, api.Cmd{Kind: api.CExpire})
	case 5:
		return event(client, epoch, 1, api.Cmd{Kind: api.CPut, Name: "m", Key: "k", Val: number(n)})
	}
	return event(client, epoch, n%3+1, api.Cmd{Kind: api.CPush, Name: "q", Val: text("v")})
}

// row are so many events of it from the number from on.
func row(from, count int) []api.Event {
	l := []api.Event{}
	for i := range count {
		l = append(l, at(from+i))
	}
	return l
}

// logOf is a log of the row from base on, of which so many stay and are done.
func logOf(base, count, commit, done int) api.Log {
	return api.Log{Base: base, Commit: base + commit, Done: base + done, Events: row(base, count)}
}

// bad are events that may not be.
func bad() []api.Event {
	touch, get := api.Cmd{Kind: api.CTouch}, api.Cmd{Kind: api.CGet, Name: "m", Key: "k"}
	long := strings.Repeat("n", 17)
	return []api.Event{
		{}, {Ref: api.Ref{Epoch: 1, Req: 1}}, {Cmd: touch},
		event(-1, 1, 1, touch), event(5, 1, 1, touch), event(0, 0, 1, touch), event(0, -1, 1, touch), event(0, 1, -1, touch),
		event(0, 1, 0, touch), event(0, 1, 0, get), event(0, 1, 1, api.Cmd{Kind: api.COpen}), event(0, 1, 1, api.Cmd{Kind: api.CExpire}),
		event(0, 1, 1, api.Cmd{Kind: 19}), event(0, 1, 1, api.Cmd{Kind: -1}), event(0, 1, 1, api.Cmd{Kind: math.MaxInt}),
		event(0, 1, 1, api.Cmd{Kind: api.CPut, Name: "m", Key: "k"}), event(0, 1, 1, api.Cmd{Kind: api.CLock, Name: long}),
		event(0, 1, 1, api.Cmd{Kind: api.CLock}), event(0, 1, 1, api.Cmd{Kind: api.CTouch, N: 1}),
		event(math.MinInt, math.MinInt, math.MinInt, touch), event(math.MaxInt, 1, 1, touch), event(1<<32, 1, 1, touch),
	}
}

// bases are numbers of first events, to the greatest that may be.
func bases() []int {
	return []int{0, 1, 2, 7, 16, 1000, 1 << 31, 1<<32 + 1, 1<<62 - 1, 1 << 62}
}

// logsOf are logs with so many events, of which any may stay and any be done.
func logsOf(base, count int) []api.Log {
	l := []api.Log{}
	for _, commit := range []int{0, 1, 2, count / 2, count - 1, count} {
		for _, done := range []int{0, 1, 2, commit / 2, commit - 1, commit} {
			if 0 <= done && done <= commit && commit <= count {
				l = append(l, logOf(base, count, commit, done))
			}
		}
	}
	return l
}

// good are logs that may be.
func good() []api.Log {
	l := []api.Log{{}, {Events: []api.Event{}}}
	for _, base := range bases() {
		for _, count := range []int{0, 1, 2, 3, 5, 15, 16} {
			l = append(l, logsOf(base, count)...)
		}
	}
	return append(l, api.Log{Events: slices.Repeat([]api.Event{at(1)}, 16), Commit: 9, Done: 4})
}

// over are logs that might be, if they had fewer events.
func over() []api.Log {
	l := []api.Log{}
	for _, base := range bases() {
		for _, count := range []int{17, 18, 40} {
			l = append(l, logsOf(base, count)...)
		}
	}
	return append(l, logOf(3, 1000, 999, 998))
}

// wrong are logs that may not be, off in one thing or in more.
func wrong() []api.Log {
	l := []api.Log{
		{Base: -1}, {Base: -1, Commit: -1, Done: -1}, {Base: math.MinInt, Commit: math.MinInt, Done: math.MinInt}, {Base: 1}, {Commit: 1}, {Done: 1}, {Commit: 1, Done: 1},
		{Commit: -1}, {Done: -1}, {Commit: -1, Done: -1}, {Commit: math.MaxInt}, {Done: math.MinInt}, {Commit: math.MinInt}, {Done: math.MaxInt, Commit: math.MaxInt},
		{Base: math.MaxInt}, {Base: math.MaxInt, Commit: math.MaxInt, Done: math.MaxInt}, {Base: math.MinInt}, {Base: math.MaxInt, Done: math.MinInt, Commit: 3},
		logOf(1<<62+1, 0, 0, 0), logOf(1<<62+1, 2, 1, 1), logOf(math.MaxInt-20, 3, 2, 1),
	}
	for _, base := range append(bases(), math.MinInt, -3, math.MaxInt, math.MaxInt-1, math.MaxInt-2) {
		for _, count := range []int{1, 3, 16} {
			l = append(l, raws(base, count)...)
		}
	}
	return append(append(l, over()...), spoilt()...)
}

// raws are logs whose Commit and Done stand anywhere about the events.
func raws(base, count int) []api.Log {
	l := []api.Log{}
	events := slices.Repeat([]api.Event{at(2)}, count)
	places := []int{math.MinInt, base - 1, base, base + 1, base + count - 1, base + count, base + count + 1, math.MaxInt}
	for _, commit := range places {
		for _, done := range places {
			m := api.Log{Base: base, Commit: commit, Done: done, Events: events}
			if !right(m) {
				l = append(l, m)
			}
		}
	}
	return l
}

// spoilt are logs with an event that may not be, in each place.
func spoilt() []api.Log {
	l := []api.Log{{Events: bad()[:16]}}
	for i, e := range bad() {
		for _, count := range []int{1, 2, 16} {
			m := logOf(1000, count, count/2, i%(count/2+1))
			m.Events[i%count] = e
			l = append(l, m)
		}
	}
	return l
}

// numbers are those about l's places, and those far off.
func numbers(l api.Log) []int {
	return []int{
		math.MinInt, math.MinInt + 1, -1 << 32, -2, -1, 0, 1, 2, 16, 17, 1 << 31, 1<<32 + 1, 1<<62 - 1, 1 << 62, 1<<62 + 1, math.MaxInt - 1, math.MaxInt,
		l.Base - 1, l.Base, l.Base + 1, l.Base + 2, l.Done - 1, l.Done, l.Done + 1, l.Commit - 1, l.Commit, l.Commit + 1, end(l) - 2, end(l) - 1, end(l), end(l) + 1,
	}
}

// counts are numbers of events, and those far off.
func counts(l api.Log) []int {
	n := len(l.Events)
	return []int{math.MinInt, -17, -1, 0, 1, 2, 3, n - 1, n, n + 1, n + 3, 15, 16, 17, 18, 100, 1<<32 + 1, math.MaxInt}
}

// few are some of a list.
func few[T any](l []T, step int) []T {
	m := []T{}
	for i := 0; i < len(l); i += step {
		m = append(m, l[i])
	}
	return m
}
