package watch_test

import (
	"math"
	"math/rand"
	"slices"
	"testing"

	"phalanx/api"
	"phalanx/watch"
)

// P22.5

// heard is a beat that came, and when.
type heard struct {
	b   api.Beat
	now int
}

// latest is what must be known when all those have come: of each slot the one with
// the latest start, and of that the greatest clock; of two alike the first.
func latest(came []heard) known {
	k := known{}
	for _, h := range slices.Backward(came) {
		if !right(h.b) {
			continue
		}
		last := &k[h.b.Id.Slot]
		if slices.Compare([]int{h.b.Id.Inc, h.b.Clock}, []int{last.Beat.Id.Inc, last.Beat.Clock}) >= 0 {
			*last = api.Peer{Heard: h.now, Beat: h.b}
		}
	}
	return k
}

// allOrders gives each order of the beats, each once.
func allOrders(l []api.Beat) [][]api.Beat {
	if len(l) == 0 {
		return [][]api.Beat{nil}
	}
	all := [][]api.Beat{}
	for i, b := range l {
		for _, rest := range allOrders(slices.Delete(slices.Clone(l), i, i+1)) {
			all = append(all, append([]api.Beat{b}, rest...))
		}
	}
	return all
}

// TestAllOrders lets beats of three starts come in each order, one of them twice, and
// one that may not be among them: the end is the same.
func TestAllOrders(t *testing.T) {
	x, y := id(3, 2), id(5, 1)
	l := []api.Beat{
		joining(id(3, 1), 9), joining(x, 2), member(x, 7, 1, 0, x), joining(id(3, 3), 1), member(y, 4, 1, 2, y), member(y, 4, 1, 2, y), joining(id(3, 4), 0),
	}
	for _, order := range allOrders(l) {
		came := []heard{}
		k := known{}
		for i, b := range order {
			came = append(came, heard{b, i + 1})
			was := k
			is := false
			k, is = watch.Hear(k, b, i+1)
			if !alike(k, latest(came)) || is == alike(k, was) {
				t.Fatalf("of %s there is known %s, %t", short(order[:i+1]), short(k), is)
			}
		}
		if k[3].Beat.Id != id(3, 3) || k[3].Beat.Clock != 1 || !like(k[5].Beat, l[4]) {
			t.Fatalf("of %s there is known %s", short(order), short(k))
		}
	}
}

// some is a beat at will: of few slots, starts and clocks, so that they meet; some of
// them may not be.
func some(r *rand.Rand, far int) api.Beat {
	x := id(r.Intn(3)*3, far-r.Intn(4))
	clock := far - r.Intn(5)
	switch r.Intn(5) {
	case 0:
		return joining(x, clock)
	case 1:
		return gone(x, clock, 1+r.Intn(3), r.Intn(3), all()[:r.Intn(8)]...)
	case 2:
		return wrong()[r.Intn(len(wrong()))]
	}
	return member(x, clock, 1+r.Intn(3), r.Intn(9), x)
}

// TestRuns lets beats come late, twice and turned round, in many runs.
func TestRuns(t *testing.T) {
	r := rand.New(rand.NewSource(22))
	fresh, old := 0, 0
	for run := range 300 {
		far := []int{4, 6, 1<<32 + 2, math.MaxInt}[run%4]
		k, came := known{}, []heard{}
		for now := range 60 {
			b := some(r, far)
			if len(came) > 0 && r.Intn(4) == 0 {
				b = came[r.Intn(len(came))].b
			}
			came = append(came, heard{b, now})
			was, is := k, false
			k, is = hears(t, k, b, now)
			if !alike(k, latest(came)) {
				t.Fatalf("%s is known, not %s", short(k), short(latest(came)))
			}
			forward(t, was, k, is)
			if is {
				fresh++
			} else {
				old++
			}
		}
	}
	if fresh < 2000 || old < 5000 {
		t.Errorf("only %d beats told something new, and %d didn't", fresh, old)
	}
}

// forward asks that no slot go back, and that one alone go on, if something was new.
func forward(t *testing.T, was, k known, is bool) {
	t.Helper()
	changed := 0
	for i := range k {
		a, b := was[i].Beat, k[i].Beat
		if b.Id.Inc < a.Id.Inc || b.Id.Inc == a.Id.Inc && b.Clock < a.Clock {
			t.Fatalf("the slot %d goes back from %s to %s", i, short(a), short(b))
		}
		if was[i].Heard != k[i].Heard || !like(a, b) {
			changed++
		}
	}
	if is != (changed == 1) || changed > 1 {
		t.Fatalf("%d slots changed, and Hear told %t", changed, is)
	}
}

// TestLateAndHeard: who is heard is not late till patience is over, and an elder beat
// doesn't make that longer; a later start makes the elder one late at once.
func TestLateAndHeard(t *testing.T) {
	x := id(4, 2)
	for patience := 1; patience < 6; patience++ {
		k, _ := watch.Hear(known{}, joining(x, 5), 10)
		for now := 10; now < 20; now++ {
			k, _ = watch.Hear(k, joining(x, 5), now)
			k, _ = watch.Hear(k, joining(x, 4), now)
			k, _ = watch.Hear(k, joining(id(4, 1), 99), now)
			if got := watch.Late(k, x, now, 0, patience); got != (now-10 >= patience) {
				t.Fatalf("heard at 10, at %d with patience %d: Late = %t", now, patience, got)
			}
		}
		k, _ = watch.Hear(k, joining(id(4, 3), 1), 20)
		if !watch.Late(k, x, 20, 20, patience) || watch.Late(k, id(4, 3), 20, 20, patience) {
			t.Fatal("a later start came, and the elder one isn't late, or the later one is")
		}
	}
}
