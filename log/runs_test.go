package log_test

import (
	"math/bits"
	"math/rand"
	"slices"
	"testing"

	"phalanx/api"
	"phalanx/log"
)

// P21.6

// isPart asks that a log be a part of the row, and that it may be, but for how many
// events it has.
func isPart(t *testing.T, l api.Log) {
	t.Helper()
	if !slices.Equal(l.Events, row(l.Base, len(l.Events))) {
		t.Fatalf("it is no part of the row: %s", short(l))
	}
	if l.Base > l.Done || l.Done > l.Commit || l.Commit > log.End(l) || len(l.Events) <= 16 && !log.Right(l) {
		t.Fatalf("it may not be: %s", short(l))
	}
}

// lacks asks of two logs that the one that ends later have what the other one lacks,
// if it begins no later than that one ends.
func lacks(t *testing.T, l, m api.Log) {
	t.Helper()
	if log.End(l) < log.End(m) {
		l, m = m, l
	}
	if l.Base > log.End(m) {
		return
	}
	from, events := log.Part(l, log.End(m), len(l.Events))
	if from != log.End(m) || !slices.Equal(events, row(from, log.End(l)-from)) {
		t.Fatalf("%s lacks of %s from %d on: %s", short(m), short(l), from, short(events))
	}
	grown := log.Add(m, from, events, len(m.Events)+len(events))
	isPart(t, grown)
	if log.End(grown) != log.End(l) {
		t.Fatalf("%s grows to %d by %s", short(m), log.End(grown), short(l))
	}
}

// TestAllPairs: any two parts of a short row.
func TestAllPairs(t *testing.T) {
	l := []api.Log{}
	for base := range 7 {
		for count := range 7 - base {
			for commit := range count + 1 {
				l = append(l, logOf(base, count, commit, commit/2))
			}
		}
	}
	for _, a := range l {
		for _, b := range l {
			lacks(t, a, b)
		}
	}
}

// places are all logs to which any steps lead that grow a log of that room by one row
// of events, given in all its parts.
func places(room, length int) []api.Log {
	l := []api.Log{{}}
	for i := 0; i < len(l); i++ {
		for _, m := range steps(l[i], room, length) {
			if !slices.ContainsFunc(l, func(x api.Log) bool { return same(x, m) }) {
				l = append(l, m)
			}
		}
	}
	return l
}

// steps are the logs behind one step of l.
func steps(l api.Log, room, length int) []api.Log {
	next, _, _ := log.Take(l)
	all := []api.Log{next}
	for n := -1; n <= length+1; n++ {
		all = append(all, log.Stay(l, n), log.Trim(l, n))
		for count := range length - max(n, 0) + 1 {
			all = append(all, log.Add(l, n, row(max(n, 0), count), room))
		}
	}
	return all
}

// TestAllPlaces: whatever steps a log goes, it is a part of the row and may be; and
// the places are as many as there are such logs.
func TestAllPlaces(t *testing.T) {
	for room := range 4 {
		const length = 5
		l := places(room, length)
		for _, a := range l {
			isPart(t, a)
			for _, b := range l {
				lacks(t, a, b)
			}
		}
		want := 0
		for base := range length + 1 {
			for count := range min(room, length-base) + 1 {
				if room > 0 || base == 0 {
					want += (count + 1) * (count + 2) / 2
				}
			}
		}
		if len(l) != want {
			t.Errorf("room %d: %d places, not %d", room, len(l), want)
		}
	}
}

// TestNothingGoesBack: no step takes back what stays or is done, nor an event that
// isn't done.
func TestNothingGoesBack(t *testing.T) {
	for _, l := range places(3, 5) {
		for _, m := range steps(l, 3, 5) {
			if m.Base < l.Base || m.Done < l.Done || m.Commit < l.Commit || log.End(m) < log.End(l) || m.Base > l.Done && m.Base > l.Base {
				t.Fatalf("%s comes behind %s", short(m), short(l))
			}
		}
	}
}

// crowd are the members of a view: one that puts events in order, and others that
// hear of them.
type crowd struct {
	r    *rand.Rand
	room int
	logs []api.Log
}

// ends are how many events each one has.
func (c *crowd) ends() []int {
	l := []int{}
	for _, m := range c.logs {
		l = append(l, log.End(m))
	}
	return l
}

// step lets the first one have more, or another one hear of what the first one, or
// anyone, has; or one do what stays, or drop what all have.
func (c *crowd) step() {
	i := c.r.Intn(len(c.logs))
	l := c.logs[i]
	switch c.r.Intn(5) {
	case 0:
		first := c.logs[0]
		c.logs[0] = log.Add(first, log.End(first), row(log.End(first), 1+c.r.Intn(3)), c.room)
	case 1:
		donor := c.logs[c.r.Intn(len(c.logs))]
		from, events := log.Part(donor, log.End(l)-c.r.Intn(3), 1+c.r.Intn(5))
		c.logs[i] = log.Add(l, from, events, c.room)
	case 2:
		c.logs[i] = log.Stay(l, log.Agreed(c.ends()))
	case 3:
		c.logs[i], _, _ = log.Take(l)
	case 4:
		c.logs[i] = log.Trim(l, log.All(c.ends()))
	}
}

// TestRunsAtWill: members with messages that come in any order, in pieces, twice, or
// never.
func TestRunsAtWill(t *testing.T) {
	r := rand.New(rand.NewSource(216))
	for run := range 60 {
		c := &crowd{r: r, room: 1 + r.Intn(16), logs: make([]api.Log, 1+run%7)}
		for range 400 {
			c.step()
			for _, l := range c.logs {
				isPart(t, l)
				lacks(t, l, c.logs[r.Intn(len(c.logs))])
			}
			c.holds(t)
		}
	}
}

// holds asks that what stays anywhere is had by one of each strict majority, and what
// has gone anywhere by all.
func (c *crowd) holds(t *testing.T) {
	t.Helper()
	ends := c.ends()
	for _, l := range c.logs {
		if l.Commit > log.Agreed(ends) {
			t.Fatalf("%d stay, of ends %v", l.Commit, ends)
		}
		if l.Base > log.All(ends) {
			t.Fatalf("%d have gone, of ends %v", l.Base, ends)
		}
	}
	each(t, ends)
}

// each asks of each strict majority of the counts that one of them comes to what more
// than half come to, and all to what All tells.
func each(t *testing.T, counts []int) {
	t.Helper()
	agreed, least := log.Agreed(counts), log.All(counts)
	for set := range 1 << len(counts) {
		if 2*bits.OnesCount(uint(set)) <= len(counts) {
			continue
		}
		most := -1
		for i, n := range counts {
			if set>>i&1 == 1 {
				most = max(most, n)
			}
			if n < least && least > 0 {
				t.Fatalf("All(%v) = %d", counts, least)
			}
		}
		if agreed > 0 && most < agreed {
			t.Fatalf("Agreed(%v) = %d: one majority of them has but %d", counts, agreed, most)
		}
	}
}

// TestAllCounts: any counts of one to seven members.
func TestAllCounts(t *testing.T) {
	for length, numbers := range [][]int{{}, {-1, 0, 1, 2, 3, 4}, {-1, 0, 1, 2, 3, 4}, {-1, 0, 1, 2, 3, 4}, {-1, 0, 1, 2, 3}, {-1, 0, 1, 2}, {0, 1, 2}, {0, 1, 2}} {
		for _, l := range rows(numbers, length) {
			each(t, l)
		}
	}
}
