package ballot_test

import (
	"math"
	"math/rand"
	"slices"
	"testing"

	"phalanx/api"
	"phalanx/ballot"
)

// P20.4

// chosen gives the values that are chosen: by some ballot a strict majority of the
// voters have accepted them.
func chosen(voters int, accepted map[api.Ballot]map[int]string) []string {
	l := []string{}
	for _, by := range accepted {
		counts := map[string]int{}
		for _, value := range by {
			counts[value]++
		}
		for value, count := range counts {
			if 2*count > voters && !slices.Contains(l, value) {
				l = append(l, value)
			}
		}
	}
	return l
}

// holds asks what a step of a voter must leave: Promised doesn't go back, and
// Accepted doesn't stand behind it.
func holds(t *testing.T, before, after api.Vote) {
	t.Helper()
	if order(after.Promised, before.Promised) < 0 || order(after.Accepted, after.Promised) > 0 || order(after.Accepted, before.Accepted) < 0 {
		t.Fatalf("%v became %v", before, after)
	}
}

// All there is to do with three voters and three ballots.

// three are the ballots by which it is tried: two of one round among them.
var three = [3]api.Ballot{at(1, 0), at(1, 1), at(2, 0)}

// own are the values that who tries takes, if the promises ask for none.
var own = [3]string{"x", "y", "z"}

// try is what who tries by a ballot has heard, and what it asks for, if it does.
type try struct {
	heard [3]bool
	told  [3]api.Promise
	asks  bool
	value string
}

// place is how all stands: the voters, the tries, and which voters have accepted by
// which ballot what.
type place struct {
	votes [3]api.Vote
	tries [3]try
	taken [3][3]string
}

// steps gives all places to which one step leads.
func (p place) steps(t *testing.T) []place {
	l := []place{}
	for b := range 3 {
		for i := range 3 {
			l = append(l, p.prepared(t, b, i)...)
			l = append(l, p.accepted(t, b, i)...)
		}
		for _, among := range [][]int{{0, 1}, {0, 2}, {1, 2}, {0, 1, 2}, {2, 1}} {
			l = append(l, p.asked(b, among)...)
		}
	}
	return l
}

// prepared: the voter promises, and who tries hears of it (it needn't count it).
func (p place) prepared(t *testing.T, b, i int) []place {
	v, is := ballot.Prepare(p.votes[i], three[b])
	holds(t, p.votes[i], v)
	if !is {
		return nil
	}
	p.votes[i] = v
	if !p.tries[b].asks {
		p.tries[b].heard[i], p.tries[b].told[i] = true, api.Promise{Accepted: v.Accepted, Value: v.Value}
	}
	return []place{p}
}

// asked: who tries takes a value by the promises of these voters; the others' came
// too late or were lost.
func (p place) asked(b int, among []int) []place {
	l := promises()
	for _, i := range among {
		if !p.tries[b].heard[i] {
			return nil
		}
		l = append(l, p.tries[b].told[i])
	}
	value, is := ballot.Choose(l)
	if !is {
		value = own[b]
	}
	p.tries[b] = try{asks: true, value: value}
	return []place{p}
}

// accepted: the voter accepts what is asked for, whether it has promised or not.
func (p place) accepted(t *testing.T, b, i int) []place {
	if !p.tries[b].asks {
		return nil
	}
	v, is := ballot.Accept(p.votes[i], three[b], p.tries[b].value)
	holds(t, p.votes[i], v)
	if !is {
		return nil
	}
	p.votes[i], p.taken[b][i] = v, p.tries[b].value
	return []place{p}
}

// chosen gives the values that are chosen at this place.
func (p place) chosen() []string {
	all := map[api.Ballot]map[int]string{}
	for b := range 3 {
		all[three[b]] = map[int]string{}
		for i, value := range p.taken[b] {
			if value != "" {
				all[three[b]][i] = value
			}
		}
	}
	return chosen(3, all)
}

// TestAllSteps goes to each place to which any steps lead, in any order, with any
// of them lost or done twice.
func TestAllSteps(t *testing.T) {
	seen, ahead := map[place]struct{}{{}: {}}, []place{{}}
	values := map[string]int{}
	for len(ahead) > 0 {
		p := ahead[len(ahead)-1]
		ahead = ahead[:len(ahead)-1]
		l := p.chosen()
		if len(l) > 1 {
			t.Fatalf("two values are chosen: %q at %v", l, p)
		}
		for _, value := range l {
			values[value]++
		}
		for _, q := range p.steps(t) {
			if _, is := seen[q]; !is {
				seen[q] = struct{}{}
				ahead = append(ahead, q)
			}
		}
	}
	for _, value := range own {
		if values[value] == 0 {
			t.Errorf("%s is never chosen", value)
		}
	}
}

// Runs at will, of more voters and ballots, with messages that are on their way.

// message is what is asked of a voter, or what it says to that.
type message struct {
	kind  int
	voter int
	by    api.Ballot
	told  api.Promise
	value string
}

const (
	asksPromise = iota
	promised
	asksAccept
)

// tryer is who tries by a ballot: what it has heard, and what it asks for.
type tryer struct {
	told  map[int]api.Promise
	asks  bool
	value string
}

// run is voters, who tries, what is on its way, and what was accepted.
type run struct {
	random   *rand.Rand
	votes    []api.Vote
	tries    map[api.Ballot]*tryer
	way      []message
	accepted map[api.Ballot]map[int]string
}

func started(voters int, random *rand.Rand) *run {
	return &run{random: random, votes: make([]api.Vote, voters), tries: map[api.Ballot]*tryer{}, accepted: map[api.Ballot]map[int]string{}}
}

// begin lets somebody try by a ballot: all voters are asked to promise. What is
// asked by a ballot by which nobody may try goes to them too.
func (r *run) begin(by api.Ballot) {
	if r.tries[by] == nil {
		r.tries[by] = &tryer{told: map[int]api.Promise{}}
		r.accepted[by] = map[int]string{}
	}
	for i := range r.votes {
		r.way = append(r.way, message{kind: asksPromise, voter: i, by: by})
	}
}

// arrive lets a message arrive; most times it is on its way no longer.
func (r *run) arrive(t *testing.T) {
	t.Helper()
	i := r.random.Intn(len(r.way))
	m := r.way[i]
	if r.random.Intn(8) > 0 {
		r.way = slices.Delete(r.way, i, i+1)
	}
	switch m.kind {
	case asksPromise:
		r.prepare(t, m)
	case promised:
		r.hear(m)
	case asksAccept:
		r.accept(t, m)
	}
}

// prepare asks the voter to promise; what it says goes on its way.
func (r *run) prepare(t *testing.T, m message) {
	t.Helper()
	v, is := ballot.Prepare(r.votes[m.voter], m.by)
	holds(t, r.votes[m.voter], v)
	r.votes[m.voter] = v
	if is {
		r.way = append(r.way, message{kind: promised, voter: m.voter, by: m.by, told: api.Promise{Accepted: v.Accepted, Value: v.Value}})
	}
}

// hear lets who tries hear of a promise: if that makes a strict majority, it asks
// all voters to accept.
func (r *run) hear(m message) {
	try := r.tries[m.by]
	try.told[m.voter] = m.told
	if try.asks || 2*len(try.told) <= len(r.votes) {
		return
	}
	l := promises()
	for i := range r.votes {
		if told, is := try.told[i]; is {
			l = append(l, told)
		}
	}
	r.random.Shuffle(len(l), func(i, j int) { l[i], l[j] = l[j], l[i] })
	value, is := ballot.Choose(l)
	if !is {
		value = wish(m.by)
	}
	try.asks, try.value = true, value
	for i := range r.votes {
		r.way = append(r.way, message{kind: asksAccept, voter: i, by: m.by, value: value})
	}
}

// wish is the value of who tries by a ballot, if the promises ask for none: no two
// are the same; one is the empty text.
func wish(by api.Ballot) string {
	if by.Slot == 3 && by.Round%4 == 1 {
		return ""
	}
	return short(by)
}

// accept asks the voter to accept.
func (r *run) accept(t *testing.T, m message) {
	t.Helper()
	v, is := ballot.Accept(r.votes[m.voter], m.by, m.value)
	holds(t, r.votes[m.voter], v)
	r.votes[m.voter] = v
	if is {
		r.accepted[m.by][m.voter] = m.value
	}
}

// some gives a ballot near the last round, of any slot, by which nobody may try now
// and then.
func (r *run) some(last int) api.Ballot {
	return at(last-r.random.Intn(4), r.random.Intn(9)-1)
}

// TestRuns: voters of each count are asked at will; messages come in any order, come
// twice, or are lost.
func TestRuns(t *testing.T) {
	random := rand.New(rand.NewSource(204))
	runs, often := 0, 0
	for turn := range 6000 {
		r := started(1+turn%7, random)
		last := []int{3, 5, 1 << 32, math.MaxInt}[turn%4]
		for range 40 + 20*len(r.votes) {
			switch {
			case len(r.way) == 0 || random.Intn(20) == 0:
				r.begin(r.some(last))
			case random.Intn(6) == 0:
				i := random.Intn(len(r.way))
				r.way = slices.Delete(r.way, i, i+1)
			default:
				r.arrive(t)
			}
			if l := chosen(len(r.votes), r.accepted); len(l) > 1 {
				t.Fatalf("of %d voters two values are chosen: %q", len(r.votes), l)
			}
		}
		one, many := r.reached()
		runs, often = runs+one, often+many
	}
	if runs < 4000 || often < 2000 {
		t.Errorf("only %d runs chose, and %d of them by several ballots", runs, often)
	}
}

// reached tells whether a value was chosen, and whether by several ballots.
func (r *run) reached() (int, int) {
	count := 0
	for _, by := range r.accepted {
		if 2*len(by) > len(r.votes) {
			count++
		}
	}
	return min(count, 1), min(count/2, 1)
}
