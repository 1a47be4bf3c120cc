package log_test

import (
	"fmt"
	"slices"

	"phalanx/api"
	"phalanx/cmd"
)

// The words of the chapter, done one by one.

// end is End, counted.
func end(l api.Log) int {
	n := l.Base
	for range l.Events {
		n++
	}
	return n
}

// right is Right.
func right(l api.Log) bool {
	for _, e := range l.Events {
		if !cmd.Fits(e) {
			return false
		}
	}
	base := l.Base >= 0 && l.Base <= 1<<62
	return base && len(l.Events) <= 16 && l.Done >= l.Base && l.Commit >= l.Done && end(l) >= l.Commit
}

// has is Has.
func has(l api.Log, e api.Event) bool {
	for _, x := range l.Events {
		if x.Ref != e.Ref {
			continue
		}
		if e.Cmd.Kind == api.CExpire && x.Cmd.Kind == api.CExpire || e.Cmd.Kind != api.CExpire && x.Cmd.Kind != api.CExpire {
			return true
		}
	}
	return false
}

// add is Add: those ahead of the end are had, and behind one that doesn't come in
// none does.
func add(l api.Log, from int, events []api.Event, room int) api.Log {
	m := clone(l)
	if from < 0 || from > end(l) {
		return m
	}
	next := []api.Event{}
	if had := end(l) - from; had < len(events) {
		next = events[had:]
	}
	for len(next) > 0 && len(m.Events) < room && cmd.Fits(next[0]) {
		m.Events = slices.Concat(m.Events, next[:1])
		next = next[1:]
	}
	return m
}

// stay is Stay.
func stay(l api.Log, n int) api.Log {
	m := clone(l)
	if n > end(l) {
		n = end(l)
	}
	if n > m.Commit {
		m.Commit = n
	}
	return m
}

// take is Take.
func take(l api.Log) (api.Log, api.Event, bool) {
	m := clone(l)
	n := l.Base
	for _, e := range l.Events {
		if n == l.Done && n < l.Commit {
			m.Done++
			return m, e, true
		}
		n++
	}
	return m, api.Event{}, false
}

// trim is Trim: they go one by one.
func trim(l api.Log, n int) api.Log {
	m := clone(l)
	for m.Base < n && m.Base < m.Done {
		m.Base++
		m.Events = slices.Clone(m.Events[1:])
	}
	return m
}

// part is Part.
func part(l api.Log, from, most int) (int, []api.Event) {
	first := from
	if from < l.Base {
		first = l.Base
	}
	if from > end(l) {
		first = end(l)
	}
	events, n := []api.Event{}, l.Base
	for _, e := range l.Events {
		if n >= from && len(events) < most {
			events = append(events, e)
		}
		n++
	}
	return first, events
}

// agreed is Agreed: each of the counts is tried.
func agreed(counts []int) int {
	most := 0
	for _, c := range counts {
		come := 0
		for _, other := range counts {
			if other >= c {
				come++
			}
		}
		if 2*come > len(counts) && c > most {
			most = c
		}
	}
	return most
}

// all is All.
func all(counts []int) int {
	for i, c := range counts {
		least := true
		for _, other := range counts {
			least = least && c <= other
		}
		if least && c > 0 {
			return counts[i]
		}
	}
	return 0
}

// clone is the log with events of its own.
func clone(l api.Log) api.Log {
	l.Events = slices.Clone(l.Events)
	return l
}

// same tells whether the logs are alike.
func same(l, m api.Log) bool {
	return l.Base == m.Base && l.Commit == m.Commit && l.Done == m.Done && slices.Equal(l.Events, m.Events)
}

// marks are events that are in no log.
func marks() []api.Event {
	return slices.Repeat([]api.Event{{Ref: api.Ref{Client: -77, Epoch: -77, Req: -77}, Cmd: api.Cmd{Kind: 77, Name: "mark"}}}, 3)
}

// spare are the events with three marks in the room behind them.
func spare(events []api.Event) []api.Event {
	return slices.Concat(events, marks())[:len(events)]
}

// wide are spare events with their room.
func wide(events []api.Event) []api.Event { return events[:len(events)+len(marks())] }

// spoil turns all that there is, the room behind it too.
func spoil(events []api.Event) {
	all := events[:cap(events)]
	for i := range all {
		all[i].Ref.Req += 1000
		all[i].Cmd.Name += "other"
	}
}

// short is x in few words, all of them to be read.
func short(x any) string { return fmt.Sprintf("%.400q", fmt.Sprint(x)) }
