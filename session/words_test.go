package session_test

import (
	"math"

	"phalanx/api"
	"phalanx/cmd"
	"phalanx/store"
)

// The words of the chapter, done one by one.

// table is the sessions, one a client.
type table = [5]api.Session

// What a request is.
const (
	fresh   = 1
	again   = 2
	waits   = 3
	ended   = 4
	strange = 5
)

func ref(client, epoch, req int) api.Ref {
	return api.Ref{Client: client, Epoch: epoch, Req: req}
}

func failed(e api.Errno) api.Reply { return api.Reply{Err: e} }

func told(v api.Value) api.Reply { return api.Reply{Val: v} }

func numb(n int) api.Value { return api.Value{Kind: api.VInt, N: n} }

func text(s string) api.Value { return api.Value{Kind: api.VText, S: s} }

// opened is a session that is Live, its last request done; gone is one that has
// ended; doing is one whose last request waits.
func opened(epoch, req int, x api.Reply) api.Session {
	return api.Session{Live: true, Epoch: epoch, Req: req, Done: true, Reply: x}
}

func gone(epoch, req int, x api.Reply) api.Session {
	return api.Session{Epoch: epoch, Req: req, Done: true, Reply: x}
}

func doing(epoch, req int) api.Session {
	return api.Session{Live: true, Epoch: epoch, Req: req}
}

// over is t with s as the client's session.
func over(t table, client int, s api.Session) table {
	t[client] = s
	return t
}

// rightSession tells whether a session may be.
func rightSession(s api.Session) bool {
	zero := !s.Live && s.Epoch == 0 && s.Req == 0 && !s.Done && s.Reply.Err == 0 && s.Reply.Val == api.Value{}
	if zero {
		return true
	}
	if s.Epoch < 1 || s.Req < 0 || !store.Reply(s.Reply) {
		return false
	}
	if s.Done {
		return true
	}
	return s.Live && s.Req != 0 && s.Reply.Err == 0 && s.Reply.Val == api.Value{}
}

// right tells whether the sessions may be: of five not all are Live.
func right(t table) bool {
	all := true
	for _, s := range t {
		if !rightSession(s) {
			return false
		}
		all = all && s.Live
	}
	return !all
}

// looks is what Look answers: the first line that applies.
func looks(t table, r api.Ref) int {
	if !cmd.Right(r) || !right(t) {
		return strange
	}
	s := t[r.Client]
	for _, line := range []struct {
		applies bool
		what    int
	}{
		{r.Req == 0 && r.Epoch > s.Epoch, fresh},
		{r.Epoch != s.Epoch, strange},
		{r.Req < s.Req, strange},
		{r.Req == s.Req && s.Done, again},
		{r.Req == s.Req, waits},
		{!s.Live, ended},
		{uint64(r.Req) == uint64(s.Req)+1 && s.Done, fresh},
	} {
		if line.applies {
			return line.what
		}
	}
	return strange
}

// opens is what Open answers.
func opens(t table, r api.Ref) (table, api.Reply) {
	if looks(t, r) != fresh || r.Req != 0 {
		return t, failed(api.ErrArg)
	}
	others := 0
	for i, s := range t {
		if i != r.Client && s.Live {
			others++
		}
	}
	if others == 4 {
		return over(t, r.Client, gone(r.Epoch, 0, failed(api.ErrFull))), failed(api.ErrFull)
	}
	return over(t, r.Client, opened(r.Epoch, 0, api.Reply{})), api.Reply{}
}

// begins is what Begin answers.
func begins(t table, r api.Ref) table {
	if looks(t, r) != fresh || r.Req == 0 {
		return t
	}
	return over(t, r.Client, doing(r.Epoch, r.Req))
}

// ends is what End answers.
func ends(t table, r api.Ref, x api.Reply) table {
	if looks(t, r) != waits || !store.Reply(x) {
		return t
	}
	return over(t, r.Client, opened(r.Epoch, r.Req, x))
}

// closes is what Close answers.
func closes(t table, client int) table {
	if client < 0 || client > 4 || !right(t) || !t[client].Live {
		return t
	}
	s := t[client]
	if s.Done {
		return over(t, client, gone(s.Epoch, s.Req, s.Reply))
	}
	return over(t, client, gone(s.Epoch, s.Req, failed(api.ErrSession)))
}

// numbers are those near all bounds, and the ends of the type.
func numbers() []int {
	return []int{math.MinInt, -1, 0, 1, 2, 3, math.MaxInt - 1, math.MaxInt}
}

// goodReplies may be, wrongReplies may not.
func goodReplies() []api.Reply {
	return []api.Reply{
		{},
		failed(api.ErrArg),
		failed(api.ErrSession),
		failed(api.ErrWait),
		told(numb(0)),
		told(numb(math.MinInt)),
		told(api.Value{Kind: api.VFloat}),
		told(text("")),
		told(text(long(64))),
		{Err: api.ErrUnlike, Val: numb(5)},
	}
}

func wrongReplies() []api.Reply {
	return []api.Reply{
		failed(-1),
		failed(19),
		failed(math.MaxInt),
		told(text(long(65))),
		told(api.Value{Kind: 4}),
		told(api.Value{N: 1}),
		told(api.Value{Kind: api.VFloat, F: 0x7ff0000000000001}),
		{Err: api.ErrUnlike, Val: api.Value{Kind: -1}},
	}
}

// long is a text of n bytes.
func long(n int) string {
	s := ""
	for range n {
		s += "x"
	}
	return s
}

// sessions are all of these fields.
func sessions() []api.Session {
	l := []api.Session{}
	for _, epoch := range numbers() {
		for _, req := range numbers() {
			for _, x := range append(goodReplies(), wrongReplies()...) {
				for _, live := range []bool{false, true} {
					for _, done := range []bool{false, true} {
						l = append(l, api.Session{Live: live, Epoch: epoch, Req: req, Done: done, Reply: x})
					}
				}
			}
		}
	}
	return l
}

// refs are those of the client with all epochs and numbers.
func refs(client int) []api.Ref {
	l := []api.Ref{}
	for _, epoch := range numbers() {
		for _, req := range numbers() {
			l = append(l, ref(client, epoch, req))
		}
	}
	return l
}

// among are tables in which other clients than that one have sessions, too: none;
// one that is done, one that waits, one that has ended; as many that are Live as
// may be; and one that may not be.
func among(client int) []table {
	l := []table{{}}
	mixed, full := table{}, table{}
	for i := 1; i < 5; i++ {
		at := (client + i) % 5
		switch i {
		case 1:
			mixed[at] = opened(3, 2, told(numb(7)))
		case 2:
			mixed[at] = doing(1, 1)
		case 3:
			mixed[at] = gone(9, 5, failed(api.ErrSession))
		}
		full[at] = opened(i, i, told(text("a")))
	}
	wrong := over(mixed, (client+4)%5, api.Session{Req: 1})
	return append(l, mixed, full, wrong)
}
