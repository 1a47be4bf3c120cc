package ballot_test

import (
	"fmt"
	"math"
	"math/rand"
	"slices"
	"strings"
	"testing"

	"phalanx/api"
	"phalanx/ballot"
)

// P20.1

func TestCmpKnown(t *testing.T) {
	known := []struct {
		a, b api.Ballot
		want int
	}{
		{at(1, 3), at(2, 0), -1}, {at(2, 0), at(1, 3), 1}, {at(2, 0), at(2, 1), -1}, {at(2, 1), at(2, 0), 1}, {at(2, 1), at(2, 1), 0},
		{at(0, 0), at(0, 0), 0}, {at(0, 0), at(1, 0), -1}, {at(0, 6), at(1, 0), -1}, {at(1, 0), at(0, 6), 1}, {at(9, 0), at(10, 0), -1},
		{at(1, -1), at(1, 0), -1}, {at(-1, 0), at(0, 0), -1}, {at(0, 0), at(0, -1), 1}, {at(-2, 6), at(-1, 0), -1},
		{at(math.MinInt, 0), at(math.MaxInt, 0), -1}, {at(math.MaxInt, 0), at(math.MinInt, 0), 1},
		{at(1, math.MinInt), at(1, math.MaxInt), -1}, {at(1, math.MaxInt), at(1, math.MinInt), 1},
		{at(math.MinInt, math.MaxInt), at(math.MinInt+1, math.MinInt), -1}, {at(math.MaxInt, math.MinInt), at(math.MaxInt-1, math.MaxInt), 1},
		{at(1<<32, 0), at(0, 0), 1}, {at(1, 1<<32), at(1, 0), 1}, {at(1<<32+1, 0), at(2, 0), 1}, {at(math.MaxInt, math.MaxInt), at(math.MaxInt, math.MaxInt), 0},
	}
	for _, k := range known {
		if got := ballot.Cmp(k.a, k.b); got != k.want {
			t.Errorf("Cmp(%v, %v) = %d, not %d", k.a, k.b, got, k.want)
		}
	}
}

func TestCmpOfAny(t *testing.T) {
	for _, a := range ballots() {
		for _, b := range ballots() {
			if got, want := ballot.Cmp(a, b), order(a, b); got != want {
				t.Fatalf("Cmp(%v, %v) = %d, not %d", a, b, got, want)
			}
		}
	}
}

// TestCmpSorts: it is a full order, in which the rounds come first.
func TestCmpSorts(t *testing.T) {
	sorted := ballots() // the numbers rise, so these do
	l := slices.Clone(sorted)
	random := rand.New(rand.NewSource(20))
	for range 50 {
		random.Shuffle(len(l), func(i, j int) { l[i], l[j] = l[j], l[i] })
		slices.SortFunc(l, ballot.Cmp)
		if !slices.Equal(l, sorted) {
			t.Fatal("the ballots aren't sorted by Round, then by Slot")
		}
	}
}

func TestRightKnown(t *testing.T) {
	known := []struct {
		b  api.Ballot
		is bool
	}{
		{at(0, 0), false}, {at(1, 0), true}, {at(1, 6), true}, {at(1, 7), false}, {at(1, -1), false}, {at(0, 6), false}, {at(-1, 0), false},
		{at(2, 3), true}, {at(0, 7), false}, {at(-1, -1), false}, {at(math.MaxInt, 0), true}, {at(math.MaxInt, 6), true}, {at(math.MaxInt, 7), false},
		{at(math.MinInt, 0), false}, {at(1, math.MinInt), false}, {at(1, math.MaxInt), false}, {at(1<<32, 0), true}, {at(1, 1<<32), false}, {at(1, 256), false},
	}
	for _, k := range known {
		if is := ballot.Right(k.b); is != k.is {
			t.Errorf("Right(%v) = %t", k.b, is)
		}
	}
}

func TestRightOfAny(t *testing.T) {
	for _, b := range ballots() {
		if is := ballot.Right(b); is != right(b) {
			t.Errorf("Right(%v) = %t", b, is)
		}
	}
}

// P20.2

func TestPrepareKnown(t *testing.T) {
	v := api.Vote{Promised: at(2, 3), Accepted: at(1, 5), Value: "x"}
	known := []struct {
		v    api.Vote
		b    api.Ballot
		want api.Vote
		is   bool
	}{
		{api.Vote{}, at(2, 0), api.Vote{Promised: at(2, 0)}, true},
		{api.Vote{Promised: at(2, 0)}, at(1, 6), api.Vote{Promised: at(2, 0)}, false},
		{api.Vote{Promised: at(2, 0)}, at(2, 0), api.Vote{Promised: at(2, 0)}, true},
		{api.Vote{}, at(0, 0), api.Vote{}, false},
		{api.Vote{}, at(0, 1), api.Vote{}, false},
		{api.Vote{}, at(1, 0), api.Vote{Promised: at(1, 0)}, true},
		{api.Vote{}, at(1, 7), api.Vote{}, false},
		{api.Vote{}, at(1, -1), api.Vote{}, false},
		{v, at(2, 2), v, false},
		{v, at(2, 3), v, true},
		{v, at(2, 4), api.Vote{Promised: at(2, 4), Accepted: at(1, 5), Value: "x"}, true},
		{v, at(1, 6), v, false},
		{v, at(3, 0), api.Vote{Promised: at(3, 0), Accepted: at(1, 5), Value: "x"}, true},
		{v, at(3, 7), v, false},
		{v, at(3, -1), v, false},
		{v, at(0, 0), v, false},
		{v, at(-1, 0), v, false},
		{v, at(math.MaxInt, 6), api.Vote{Promised: at(math.MaxInt, 6), Accepted: at(1, 5), Value: "x"}, true},
		{v, at(math.MaxInt, math.MaxInt), v, false},
		{v, at(math.MinInt, 0), v, false},
	}
	for _, k := range known {
		if got, is := ballot.Prepare(k.v, k.b); got != k.want || is != k.is {
			t.Errorf("Prepare(%v, %v) = %v, %t, not %v, %t", k.v, k.b, got, is, k.want, k.is)
		}
	}
}

func TestAcceptKnown(t *testing.T) {
	v := api.Vote{Promised: at(2, 3), Accepted: at(1, 5), Value: "x"}
	known := []struct {
		v     api.Vote
		b     api.Ballot
		value string
		want  api.Vote
		is    bool
	}{
		{api.Vote{Promised: at(2, 0)}, at(1, 6), "x", api.Vote{Promised: at(2, 0)}, false},
		{api.Vote{Promised: at(2, 0)}, at(3, 0), "x", api.Vote{Promised: at(3, 0), Accepted: at(3, 0), Value: "x"}, true},
		{api.Vote{Promised: at(2, 0)}, at(2, 0), "x", api.Vote{Promised: at(2, 0), Accepted: at(2, 0), Value: "x"}, true},
		{api.Vote{}, at(1, 0), "", api.Vote{Promised: at(1, 0), Accepted: at(1, 0)}, true},
		{api.Vote{}, at(0, 0), "x", api.Vote{}, false},
		{api.Vote{}, at(1, 7), "x", api.Vote{}, false},
		{api.Vote{}, at(1, -1), "x", api.Vote{}, false},
		{v, at(2, 2), "y", v, false},
		{v, at(2, 3), "y", api.Vote{Promised: at(2, 3), Accepted: at(2, 3), Value: "y"}, true},
		{v, at(2, 3), "", api.Vote{Promised: at(2, 3), Accepted: at(2, 3)}, true},
		{v, at(2, 4), "y", api.Vote{Promised: at(2, 4), Accepted: at(2, 4), Value: "y"}, true},
		{v, at(1, 5), "x", v, false},
		{v, at(1, 6), "y", v, false},
		{v, at(3, 0), "x", api.Vote{Promised: at(3, 0), Accepted: at(3, 0), Value: "x"}, true},
		{v, at(3, 7), "y", v, false},
		{v, at(3, -1), "y", v, false},
		{v, at(0, 6), "y", v, false},
		{v, at(math.MaxInt, 6), "y", api.Vote{Promised: at(math.MaxInt, 6), Accepted: at(math.MaxInt, 6), Value: "y"}, true},
		{v, at(math.MaxInt, math.MaxInt), "y", v, false},
		{v, at(math.MinInt, 0), "y", v, false},
	}
	for _, k := range known {
		if got, is := ballot.Accept(k.v, k.b, k.value); got != k.want || is != k.is {
			t.Errorf("Accept(%v, %v, %q) = %v, %t, not %v, %t", k.v, k.b, k.value, got, is, k.want, k.is)
		}
	}
}

// TestPrepareAndAcceptOfAny: also votes that no voter comes to, which have accepted
// behind what they have promised to, or promised to what nobody may try by.
func TestPrepareAndAcceptOfAny(t *testing.T) {
	texts := values()
	for i, promised := range few() {
		for j, accepted := range few() {
			v := api.Vote{Promised: promised, Accepted: accepted, Value: texts[(i+j)%len(texts)]}
			for k, b := range few() {
				value := texts[(i+3*k)%len(texts)]
				if got, is := ballot.Prepare(v, b); !same(got, is)(prepare(v, b)) {
					t.Fatalf("Prepare(%s, %v) = %s, %t", short(v), b, short(got), is)
				}
				if got, is := ballot.Accept(v, b, value); !same(got, is)(accept(v, b, value)) {
					t.Fatalf("Accept(%s, %v, %.10q) = %s, %t", short(v), b, value, short(got), is)
				}
			}
		}
	}
}

// same tells whether an answer is as another one.
func same(v api.Vote, is bool) func(api.Vote, bool) bool {
	return func(w api.Vote, also bool) bool { return v == w && is == also }
}

// TestPrepareAndAcceptAboutAny: each ballot about each that was promised to.
func TestPrepareAndAcceptAboutAny(t *testing.T) {
	for _, promised := range ballots() {
		v := api.Vote{Promised: promised, Accepted: at(1, 0), Value: "v"}
		for round := -1; round <= 1; round++ {
			for slot := -1; slot <= 7; slot++ {
				for _, b := range []api.Ballot{at(promised.Round+round, slot), at(promised.Round+round, promised.Slot+slot)} {
					if got, is := ballot.Prepare(v, b); !same(got, is)(prepare(v, b)) {
						t.Fatalf("Prepare(%v, %v) = %v, %t", v, b, got, is)
					}
					if got, is := ballot.Accept(v, b, "w"); !same(got, is)(accept(v, b, "w")) {
						t.Fatalf("Accept(%v, %v, w) = %v, %t", v, b, got, is)
					}
				}
			}
		}
	}
}

// P20.3

func TestChooseKnown(t *testing.T) {
	none := api.Promise{}
	long := strings.Repeat("v", 20000)
	known := []struct {
		l    []api.Promise
		want string
		is   bool
	}{
		{nil, "", false},
		{promises(), "", false},
		{promises(none), "", false},
		{promises(none, none, none), "", false},
		{promises(had(1, 0, "x")), "x", true},
		{promises(had(1, 0, "x"), had(2, 0, "y")), "y", true},
		{promises(had(2, 0, "y"), had(1, 0, "x")), "y", true},
		{promises(had(2, 0, "y"), had(1, 6, "x")), "y", true},
		{promises(had(2, 0, "x"), had(2, 1, "y"), none), "y", true},
		{promises(none, had(2, 1, "y"), had(2, 0, "x")), "y", true},
		{promises(had(10, 0, "x"), had(9, 0, "y")), "x", true},
		{promises(had(2, 0, "x"), had(2, 0, "y")), "x", true},
		{promises(had(1, 0, "w"), had(2, 0, "x"), had(2, 0, "y"), had(2, 0, "z")), "x", true},
		{promises(had(2, 0, ""), had(1, 0, "x")), "", true},
		{promises(had(1, 0, "")), "", true},
		{promises(had(0, 0, "x")), "", false},
		{promises(had(0, 6, "x"), had(-1, 0, "y"), had(1, 7, "z"), had(1, -1, "w")), "", false},
		{promises(had(9, 7, "x"), had(1, 0, "y")), "y", true},
		{promises(had(1, 0, "y"), had(9, 7, "x")), "y", true},
		{promises(had(9, -1, "x"), had(8, 6, "y"), had(math.MaxInt, math.MaxInt, "z")), "y", true},
		{promises(had(math.MaxInt, 6, "x"), had(math.MaxInt, 7, "y")), "x", true},
		{promises(had(math.MaxInt, 5, "x"), had(math.MaxInt, 6, "y")), "y", true},
		{promises(had(math.MaxInt, 0, "x"), had(math.MinInt, 0, "y"), had(1, 0, "z")), "x", true},
		{promises(had(math.MinInt, math.MinInt, "x")), "", false},
		{promises(had(1<<32, 0, "x"), had(1, 0, "y")), "x", true},
		{promises(had(1, 0, long), none), long, true},
	}
	for _, k := range known {
		if got, is := ballot.Choose(k.l); got != k.want || is != k.is {
			t.Errorf("Choose(%s) = %.20q, %t, not %.20q, %t", short(k.l), got, is, k.want, k.is)
		}
	}
}

// TestChooseOfAny asks for one, two and three of some ballots, in all orders; what
// is handed in stays, and what stands in its spare room neither counts nor changes.
func TestChooseOfAny(t *testing.T) {
	all := few()
	for i, a := range all {
		for j, b := range all {
			lists := [][]api.Promise{{{Accepted: a, Value: "a"}}, {{Accepted: a, Value: "a"}, {Accepted: b, Value: "b"}}}
			for k, c := range all {
				if (i+j+k)%5 == 0 {
					lists = append(lists, promises(api.Promise{Accepted: a, Value: "a"}, api.Promise{Accepted: b}, api.Promise{Accepted: c, Value: "c"}))
				}
			}
			for _, l := range lists {
				asks(t, l)
			}
		}
	}
}

// asks asks for the value of the promises.
func asks(t *testing.T, l []api.Promise) {
	t.Helper()
	room := roomy(l)
	got, is := ballot.Choose(room)
	if want, wantIs := choose(l); got != want || is != wantIs {
		t.Fatalf("Choose(%s) = %.20q, %t, not %.20q, %t", short(l), got, is, want, wantIs)
	}
	if !stays(room, l) {
		t.Fatalf("Choose(%s) changed what was handed in", short(l))
	}
}

// TestChooseOfMany: lists of up to twenty, and one of many thousands.
func TestChooseOfMany(t *testing.T) {
	random := rand.New(rand.NewSource(203))
	all, texts := append(few(), ballots()...), values()
	one := func() api.Promise {
		b := at(random.Intn(4), random.Intn(9)-1)
		if random.Intn(3) == 0 {
			b = all[random.Intn(len(all))]
		}
		return api.Promise{Accepted: b, Value: texts[random.Intn(len(texts))]}
	}
	for range 20000 {
		l := promises()
		for range random.Intn(21) {
			l = append(l, one())
		}
		asks(t, l)
	}
	long := promises()
	for range 70000 {
		long = append(long, one())
	}
	asks(t, long)
	asks(t, append(slices.Repeat(promises(had(3, 3, "y")), 70000), had(3, 4, "z")))
	asks(t, append(promises(had(3, 3, "x")), slices.Repeat(promises(had(3, 3, "y"), had(3, 2, "z")), 70000)...))
}

func ExampleChoose() {
	a, _ := ballot.Prepare(api.Vote{}, at(1, 0))
	a, _ = ballot.Accept(a, at(1, 0), "x")
	a, is := ballot.Prepare(a, at(2, 1))
	b, also := ballot.Prepare(api.Vote{}, at(2, 1))
	fmt.Println(is, also)
	fmt.Println(ballot.Choose(promises(api.Promise{Accepted: a.Accepted, Value: a.Value}, api.Promise{Accepted: b.Accepted, Value: b.Value})))
	_, is = ballot.Accept(a, at(1, 0), "x")
	fmt.Println(is)
	// Output:
	// true true
	// x true
	// false
}
