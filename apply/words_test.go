package apply_test

import (
	"math"
	"slices"

	"phalanx/api"
	"phalanx/cmd"
	"phalanx/session"
	"phalanx/store"
)

// The words of the chapter, done one by one.

// right tells whether the state may be.
func right(s api.State) bool {
	if s.Count < 0 || !store.Right(s.Objects) || !session.Right(s.Sessions) {
		return false
	}
	heads, others := []api.Ref{}, []api.Ref{}
	for _, o := range s.Objects {
		for i, r := range o.Refs {
			if i == 0 && o.Kind == api.OLock {
				heads = append(heads, r)
			} else {
				others = append(others, r)
			}
		}
	}
	for _, r := range heads {
		x := s.Sessions[r.Client]
		below := r.Req < x.Req
		same := r.Req == x.Req && x.Done
		if !x.Live || x.Epoch != r.Epoch || r.Req < 1 || !below && !same {
			return false
		}
	}
	for client, x := range s.Sessions {
		places := []api.Ref{}
		for _, r := range others {
			if r.Client == client {
				places = append(places, r)
			}
		}
		last := ref(client, x.Epoch, x.Req)
		waits := x.Epoch > 0 && !x.Done
		if waits && !slices.Equal(places, []api.Ref{last}) || !waits && len(places) > 0 {
			return false
		}
	}
	return true
}

// replica is a state, and what it has told.
type replica struct {
	state api.State
	told  []api.Out
}

func (x *replica) tell(r api.Ref, reply api.Reply) {
	x.told = append(x.told, api.Out{Ref: r, Reply: reply})
}

// keep keeps a reply in its session.
func (x *replica) keep(r api.Ref, reply api.Reply) {
	own := &x.state.Sessions[r.Client]
	own.Done = true
	own.Reply = reply
}

// leaves lets the client's session leave.
func (x *replica) leaves(client int) {
	own := &x.state.Sessions[client]
	last := ref(client, own.Epoch, own.Req)
	if !own.Done {
		x.keep(last, failed(api.ErrSession))
		x.tell(last, failed(api.ErrSession))
	}
	own.Live = false
	l, others := store.Drop(x.state.Objects, last)
	x.state.Objects = l
	x.others(others)
}

// others tells and keeps the replies that others have.
func (x *replica) others(l []api.Out) {
	for _, out := range l {
		x.keep(out.Ref, out.Reply)
		x.tell(out.Ref, out.Reply)
	}
}

// does is what Apply answers.
func does(s api.State, e api.Event) (api.State, []api.Out) {
	if !right(s) || !cmd.Fits(e) || s.Count == math.MaxInt {
		return s, nil
	}
	x := &replica{state: clone(s)}
	x.state.Count++
	own := &x.state.Sessions[e.Ref.Client]
	what := session.Look(s.Sessions, e.Ref)
	switch {
	case e.Cmd.Kind == api.CExpire:
		if own.Live && own.Epoch == e.Ref.Epoch {
			x.leaves(e.Ref.Client)
		}
	case what == 2:
		x.tell(e.Ref, own.Reply)
	case what == 4:
		x.tell(e.Ref, failed(api.ErrSession))
	case what == 1 && e.Cmd.Kind == api.COpen:
		x.opens(e.Ref)
	case what == 1:
		own.Req, own.Done, own.Reply = e.Ref.Req, false, api.Reply{}
		x.asks(e)
	}
	return x.state, x.told
}

// opens lets a fresh opening be done; its reply is told first, though it is known
// last.
func (x *replica) opens(r api.Ref) {
	if x.state.Sessions[r.Client].Live {
		x.leaves(r.Client)
	}
	live := 0
	for i, own := range x.state.Sessions {
		if own.Live && i != r.Client {
			live++
		}
	}
	reply := api.Reply{}
	if live == 4 {
		reply = failed(api.ErrFull)
	}
	x.state.Sessions[r.Client] = api.Session{Live: live < 4, Epoch: r.Epoch, Done: true, Reply: reply}
	x.told = slices.Insert(x.told, 0, api.Out{Ref: r, Reply: reply})
}

// asks lets any other fresh request, which has begun, be done.
func (x *replica) asks(e api.Event) {
	if e.Cmd.Kind == api.CTouch || e.Cmd.Kind == api.CClose {
		x.keep(e.Ref, api.Reply{})
		x.tell(e.Ref, api.Reply{})
		if e.Cmd.Kind == api.CClose {
			x.leaves(e.Ref.Client)
		}
		return
	}
	l, reply, later, others := store.Do(x.state.Objects, e.Ref, e.Cmd)
	x.state.Objects = l
	if !later {
		x.keep(e.Ref, reply)
		x.tell(e.Ref, reply)
	}
	x.others(others)
}

// What is the same: a list that holds nothing may be nil or empty.

func same(a, b api.State) bool {
	return a.Count == b.Count && a.Sessions == b.Sessions && sameObjects(a.Objects, b.Objects)
}

func sameObjects(a, b []api.Object) bool {
	return slices.EqualFunc(a, b, func(a, b api.Object) bool {
		return a.Name == b.Name && a.Kind == b.Kind && a.Cap == b.Cap && a.Round == b.Round && a.Meter == b.Meter &&
			slices.Equal(a.Pairs, b.Pairs) && slices.Equal(a.Vals, b.Vals) && slices.Equal(a.Refs, b.Refs)
	})
}

// clone is s in memory of its own.
func clone(s api.State) api.State {
	s.Objects = slices.Clone(s.Objects)
	for i, o := range s.Objects {
		s.Objects[i].Pairs, s.Objects[i].Vals, s.Objects[i].Refs = slices.Clone(o.Pairs), slices.Clone(o.Vals), slices.Clone(o.Refs)
	}
	return s
}
