package session_test

import (
	"math/rand"
	"testing"

	"phalanx/api"
	"phalanx/session"
)

// P16.5

// past is a table to which some steps lead, and which requests were fresh on the
// way, when they were done: one flag a request of two clients.
type past struct {
	l   table
	had [2][3][3]bool
}

// take lets a request that is fresh be done, and asks it not to have been fresh
// before.
func take(t *testing.T, p past, r api.Ref) past {
	t.Helper()
	if session.Look(p.l, r) != fresh {
		return p
	}
	had := &p.had[r.Client][r.Epoch-1][r.Req]
	if *had {
		t.Fatalf("%v is fresh twice: over %v", r, p.l)
	}
	*had = true
	if r.Req == 0 {
		p.l, _ = session.Open(p.l, r)
	} else {
		p.l = session.Begin(p.l, r)
	}
	if session.Look(p.l, r) == fresh {
		t.Fatalf("%v is fresh still: over %v", r, p.l)
	}
	return p
}

// steps are the pasts to which one step more leads.
func steps(t *testing.T, p past, clients int) []past {
	t.Helper()
	l := []past{}
	for client := range clients {
		for epoch := 1; epoch < 4; epoch++ {
			for req := range 3 {
				r := ref(client, epoch, req)
				l = append(l, take(t, p, r))
				if ended := session.End(p.l, r, failed(api.ErrNone)); ended != p.l {
					l = append(l, past{ended, p.had})
				}
			}
		}
		if closed := session.Close(p.l, client); closed != p.l {
			l = append(l, past{closed, p.had})
		}
	}
	return l
}

// TestFreshOnce goes to all tables to which the calls lead from nothing, and holds
// each there against the words.
func TestFreshOnce(t *testing.T) {
	for clients := 1; clients < 3; clients++ {
		seen := map[past]int{{}: 1}
		todo := []past{{}}
		for len(todo) > 0 && len(seen) < 50000 {
			p := todo[0]
			todo = todo[1:]
			if !session.Right(p.l) {
				t.Fatalf("the calls lead to %v", p.l)
			}
			for _, q := range steps(t, p, clients) {
				if seen[q] == 0 {
					seen[q] = 1
					todo = append(todo, q)
				}
			}
		}
		if len(seen) < 100 || len(todo) > 0 {
			t.Fatalf("%d tables, and %d that were not gone on from", len(seen), len(todo))
		}
	}
}

// TestRuns lets five clients do what they like, and holds each step against the
// words; a request that was fresh once never is again.
func TestRuns(t *testing.T) {
	will := rand.New(rand.NewSource(16))
	for range 300 {
		l := table{}
		had := map[api.Ref]int{}
		seen := map[int]int{}
		for range 300 {
			r := near(l, will)
			holds(t, l, r)
			what := session.Look(l, r)
			seen[what] = 1
			if what == fresh && had[r] > 0 {
				t.Fatalf("%v is fresh twice", r)
			}
			switch {
			case what == fresh && r.Req == 0:
				had[r] = 1
				l, _ = session.Open(l, r)
			case what == fresh:
				had[r] = 1
				l = session.Begin(l, r)
			case what == waits:
				x := anyReply(will)
				holdsEnd(t, l, r, x)
				l = session.End(l, r, x)
			case will.Intn(8) == 0:
				holdsClose(t, l, r.Client)
				l = session.Close(l, r.Client)
			}
		}
		if len(seen) < 5 {
			t.Fatalf("requests of %d sorts alone", len(seen))
		}
	}
}

// near is a request near a client's last one.
func near(l table, will *rand.Rand) api.Ref {
	client := will.Intn(5)
	s := l[client]
	if will.Intn(6) == 0 {
		return ref(client, s.Epoch+will.Intn(3), 0)
	}
	return ref(client, max(s.Epoch, 1), s.Req-1+will.Intn(4))
}

func anyReply(will *rand.Rand) api.Reply {
	all := append(goodReplies(), wrongReplies()...)
	return all[will.Intn(len(all))]
}
