package snap_test

import (
	"slices"

	"phalanx/api"
	"phalanx/apply"
)

// The words of the chapter, done one by one.

func number(n int) api.Item  { return api.Item{Kind: api.IInt, N: n} }
func word(s string) api.Item { return api.Item{Kind: api.IText, S: s} }

// said is a list of items that grows at its end.
type said struct {
	all []api.Item
}

func (x *said) numbers(l ...int) {
	for _, n := range l {
		x.all = append(x.all, number(n))
	}
}

func (x *said) text(s string) { x.all = append(x.all, word(s)) }

func (x *said) flag(is bool) {
	x.numbers(map[bool]int{false: 0, true: 1}[is])
}

func (x *said) value(v api.Value) {
	x.numbers(v.Kind)
	switch v.Kind {
	case api.VInt:
		x.numbers(v.N)
	case api.VFloat:
		x.numbers(int(v.F))
	case api.VText:
		x.text(v.S)
	}
}

func (x *said) object(o api.Object) {
	x.text(o.Name)
	x.numbers(o.Kind, o.Cap, o.Round, len(o.Pairs))
	for _, p := range o.Pairs {
		x.text(p.Key)
		x.value(p.Val)
	}
	x.numbers(len(o.Vals))
	for _, v := range o.Vals {
		x.value(v)
	}
	x.numbers(len(o.Refs))
	for _, r := range o.Refs {
		x.numbers(r.Client, r.Epoch, r.Req)
	}
	x.numbers(o.Meter.Count, int(o.Meter.Sum), int(o.Meter.Least), int(o.Meter.Most))
}

func (x *said) session(s api.Session) {
	x.flag(s.Live)
	x.numbers(s.Epoch, s.Req)
	x.flag(s.Done)
	x.numbers(int(s.Reply.Err))
	x.value(s.Reply.Val)
}

// written is the items of any state.
func written(s api.State) []api.Item {
	x := &said{}
	x.numbers(s.Count, len(s.Objects))
	for _, o := range s.Objects {
		x.object(o)
	}
	for _, own := range s.Sessions {
		x.session(own)
	}
	return x.all
}

// guess takes items for a state's, whatever they are: behind the last one there are
// noughts, and a list has eight parts at most.
type guess struct {
	all []api.Item
	at  int
}

func (x *guess) item() api.Item {
	x.at++
	if x.at > len(x.all) {
		return api.Item{}
	}
	return x.all[x.at-1]
}

func (x *guess) number() int { return x.item().N }

func (x *guess) value() api.Value {
	v := api.Value{Kind: x.number()}
	switch v.Kind {
	case api.VInt:
		v.N = x.number()
	case api.VFloat:
		v.F = uint64(x.number())
	case api.VText:
		v.S = x.item().S
	}
	return v
}

// times does something as often as the next number says.
func (x *guess) times(does func()) {
	n := x.number()
	for i := 0; i < n && i < 8; i++ {
		does()
	}
}

func (x *guess) object() api.Object {
	o := api.Object{Name: x.item().S}
	for _, field := range []*int{&o.Kind, &o.Cap, &o.Round} {
		*field = x.number()
	}
	x.times(func() {
		p := api.Pair{Key: x.item().S}
		p.Val = x.value()
		o.Pairs = append(o.Pairs, p)
	})
	x.times(func() { o.Vals = append(o.Vals, x.value()) })
	x.times(func() {
		r := api.Ref{}
		for _, field := range []*int{&r.Client, &r.Epoch, &r.Req} {
			*field = x.number()
		}
		o.Refs = append(o.Refs, r)
	})
	o.Meter.Count = x.number()
	for _, field := range []*uint64{&o.Meter.Sum, &o.Meter.Least, &o.Meter.Most} {
		*field = uint64(x.number())
	}
	return o
}

func (x *guess) session() api.Session {
	s := api.Session{}
	s.Live = x.number() == 1
	s.Epoch = x.number()
	s.Req = x.number()
	s.Done = x.number() == 1
	s.Reply.Err = api.Errno(x.number())
	s.Reply.Val = x.value()
	return s
}

// readable gives the state that may be whose items l is, if there is one: the guess
// is it, or there is none.
func readable(l []api.Item) (api.State, bool) {
	x := &guess{all: l}
	s := api.State{Count: x.number()}
	x.times(func() { s.Objects = append(s.Objects, x.object()) })
	for i := range s.Sessions {
		s.Sessions[i] = x.session()
	}
	if !slices.Equal(written(s), l) || !apply.Right(s) {
		return api.State{}, false
	}
	return s, true
}

// What is the same: a list that holds nothing may be nil or empty.

func same(a, b api.State) bool {
	return a.Count == b.Count && a.Sessions == b.Sessions && slices.EqualFunc(a.Objects, b.Objects, sameObject)
}

func sameObject(a, b api.Object) bool {
	return a.Name == b.Name && a.Kind == b.Kind && a.Cap == b.Cap && a.Round == b.Round && a.Meter == b.Meter &&
		slices.Equal(a.Pairs, b.Pairs) && slices.Equal(a.Vals, b.Vals) && slices.Equal(a.Refs, b.Refs)
}

// nothing tells whether s is zero.
func nothing(s api.State) bool { return same(s, api.State{}) }

// clone is s in memory of its own.
func clone(s api.State) api.State {
	s.Objects = slices.Clone(s.Objects)
	for i, o := range s.Objects {
		s.Objects[i].Pairs, s.Objects[i].Vals, s.Objects[i].Refs = slices.Clone(o.Pairs), slices.Clone(o.Vals), slices.Clone(o.Refs)
	}
	return s
}
