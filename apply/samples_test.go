package apply_test

import (
	"fmt"
	"math"
	"slices"
	"strconv"
	"strings"

	"phalanx/api"
	"phalanx/apply"
)

func ref(client, epoch, req int) api.Ref {
	return api.Ref{Client: client, Epoch: epoch, Req: req}
}

func refs(l ...api.Ref) []api.Ref          { return l }
func objects(l ...api.Object) []api.Object { return l }
func failed(e api.Errno) api.Reply         { return api.Reply{Err: e} }
func valued(v api.Value) api.Reply         { return api.Reply{Val: v} }
func numb(n int) api.Value                 { return api.Value{Kind: api.VInt, N: n} }
func text(s string) api.Value              { return api.Value{Kind: api.VText, S: s} }
func float(f float64) api.Value            { return api.Value{Kind: api.VFloat, F: math.Float64bits(f)} }

func aLock(name string, l ...api.Ref) api.Object {
	return api.Object{Name: name, Kind: api.OLock, Refs: l}
}

func aGate(name string, n, round int, l ...api.Ref) api.Object {
	return api.Object{Name: name, Kind: api.OGate, Cap: n, Round: round, Refs: l}
}

// opened is a session that is Live, its last request done; gone is one that has
// ended; doing is one whose last request waits.
func opened(epoch, req int, x api.Reply) api.Session {
	return api.Session{Live: true, Epoch: epoch, Req: req, Done: true, Reply: x}
}

func gone(epoch, req int, x api.Reply) api.Session {
	return api.Session{Epoch: epoch, Req: req, Done: true, Reply: x}
}

func doing(epoch, req int) api.Session {
	return api.Session{Live: true, Epoch: epoch, Req: req}
}

// state is one that has counted seven events.
func state(l []api.Object, sessions ...api.Session) api.State {
	s := api.State{Count: 7, Objects: l}
	copy(s.Sessions[:], sessions)
	return s
}

// kinds are the commands' words.
var kinds = map[string]int{
	"open": api.COpen, "close": api.CClose, "touch": api.CTouch, "expire": api.CExpire,
	"make": api.CMake, "drop": api.CDrop, "size": api.CSize,
	"get": api.CGet, "put": api.CPut, "cut": api.CCut, "swap": api.CSwap,
	"push": api.CPush, "pop": api.CPop,
	"lock": api.CLock, "free": api.CFree, "wait": api.CWait,
	"add": api.CAdd, "read": api.CRead,
}

func number(s string) int {
	n, err := strconv.Atoi(s)
	if err != nil {
		panic(err)
	}
	return n
}

// command is what some words say: a kind, a name, and what else that names.
func command(words ...string) api.Cmd {
	c := api.Cmd{Kind: kinds[words[0]]}
	if len(words) > 1 {
		c.Name = words[1]
	}
	switch words[0] {
	case "make":
		c.N, c.M = number(words[2]), number(words[3])
	case "read":
		c.N = number(words[2])
	case "get", "cut":
		c.Key = words[2]
	case "put":
		c.Key, c.Val = words[2], numb(number(words[3]))
	case "swap":
		c.Key, c.Old, c.Val = words[2], numb(number(words[3])), numb(number(words[4]))
	case "push":
		c.Val = numb(number(words[2]))
	case "add":
		c.Val = float(float64(number(words[2])))
	}
	return c
}

// event is what a text such as 0.1.2 lock l says.
func event(s string) api.Event {
	words := strings.Fields(s)
	name := strings.Split(words[0], ".")
	return api.Event{Ref: ref(number(name[0]), number(name[1]), number(name[2])), Cmd: command(words[1:]...)}
}

// shown is replies as a text such as 0.1.2:0 1.1.1:0=5.
func shown(l []api.Out) string {
	words := []string{}
	for _, x := range l {
		word := fmt.Sprintf("%d.%d.%d:%d", x.Ref.Client, x.Ref.Epoch, x.Ref.Req, x.Reply.Err)
		switch v := x.Reply.Val; v.Kind {
		case api.VInt:
			word += fmt.Sprint("=", v.N)
		case api.VFloat:
			word += fmt.Sprint("~", math.Float64frombits(v.F))
		}
		words = append(words, word)
	}
	return strings.Join(words, " ")
}

// short is x in few words, all of them to be read.
func short(x any) string { return fmt.Sprintf("%.900q", fmt.Sprint(x)) }

// ends are states at the ends of their numbers.
func ends() []api.State {
	top := math.MaxInt
	l := []api.State{
		state(nil, opened(top, top, api.Reply{})),
		state(nil, opened(top, top-1, api.Reply{})),
		state(nil, opened(1, top-1, failed(api.ErrNone)), gone(top, 0, failed(api.ErrFull))),
		state(objects(aLock("l", ref(0, 1, top), ref(1, top, top))), opened(1, top, api.Reply{}), doing(top, top)),
		state(objects(aLock("l", ref(0, 1, top-1), ref(1, top, 1))), opened(1, top-1, api.Reply{}), doing(top, 1)),
		state(objects(aGate("g", 2, top, ref(0, 1, 1))), doing(1, 1), opened(1, 0, api.Reply{})),
		state(objects(aGate("g", 2, top-1, ref(0, 1, 1))), doing(1, 1), opened(1, 0, api.Reply{})),
		state(objects(aGate("g", 1, top)), opened(1, 4, valued(text(strings.Repeat("t", 64))))),
	}
	for _, count := range []int{0, 1, top - 2, top - 1, top} {
		s := clone(l[4])
		s.Count = count
		l = append(l, s, api.State{Count: count})
	}
	return l
}

// reached are all states to which the rows of known events lead, and the ends.
func reached() []api.State {
	l := ends()
	for _, row := range rows() {
		s := api.State{}
		for _, line := range row {
			words, _, _ := strings.Cut(line, ">")
			s, _ = does(s, event(words))
			l = append(l, s)
		}
	}
	return l
}

// spoilt are states that may not be, each s with one thing that is wrong.
func spoilt(s api.State) []api.State {
	l := []api.State{}
	spoil := func(does func(*api.State)) {
		x := clone(s)
		does(&x)
		l = append(l, x)
	}
	for _, count := range []int{-1, math.MinInt} {
		spoil(func(x *api.State) { x.Count = count })
	}
	spoil(func(x *api.State) { x.Objects = append(x.Objects, api.Object{}) })
	spoil(func(x *api.State) { x.Objects = slices.Concat(objects(api.Object{Name: "~", Kind: 6}), x.Objects) })
	spoil(func(x *api.State) { x.Objects = append(x.Objects, aLock("~", ref(4, 9, 9))) })
	spoil(func(x *api.State) { x.Objects = append(x.Objects, aGate("~", 5, 0, ref(4, 9, 9))) })
	spoil(func(x *api.State) { x.Objects = append(x.Objects, aLock("~", ref(-1, 1, 1))) })
	spoil(func(x *api.State) { x.Objects = append(x.Objects, aLock("~", ref(5, 1, 1))) })
	for client := range 5 {
		spoil(func(x *api.State) { x.Sessions[client] = api.Session{Done: true} })
		spoil(func(x *api.State) { x.Sessions[client] = doing(99, 1) })
		spoil(func(x *api.State) { x.Sessions[client] = opened(1, 1, failed(19)) })
	}
	spoil(func(x *api.State) {
		for client := range 5 {
			x.Sessions[client] = opened(1, 1, api.Reply{})
		}
	})
	return l
}

// commands are all kinds of them, on the objects of the rows, with arguments that
// fit and that don't.
func commands() []api.Cmd {
	l := []api.Cmd{}
	for _, words := range []string{"open", "close", "touch", "expire", "make m 1 0", "make z 3 0", "drop q", "make q 2 2", "make t 5 0"} {
		l = append(l, command(strings.Fields(words)...))
	}
	for _, name := range []string{"g", "k", "l", "m", "none"} {
		for _, words := range []string{"lock", "free", "wait", "size", "drop"} {
			l = append(l, command(words, name))
		}
	}
	for _, words := range []string{"get m a", "put m a 4", "put m b 5", "cut m a", "swap m a 4 6", "swap m b 9 9", "push q 3", "pop q", "add t 1", "read t 1", "read t 0"} {
		l = append(l, command(strings.Fields(words)...))
	}
	return l
}

// wrong are events that may not be.
func wrong() []api.Event {
	l := []api.Event{
		{},
		event("0.1.1 open"), event("0.2.1 open"), event("0.1.0 touch"), event("0.2.0 close"), event("0.1.0 lock l"), event("0.1.3 expire"),
		event("0.0.0 open"), event("0.-1.0 open"), event("-1.1.0 open"), event("5.1.0 open"), event("5.1.0 expire"), event("-1.1.1 touch"),
		event("0.1.-1 touch"), event("0.0.1 lock l"), event("0.1.0 size l"),
	}
	for _, kind := range []int{math.MinInt, -1, 0, 19, 20, 256, math.MaxInt} {
		l = append(l, api.Event{Ref: ref(0, 1, 3), Cmd: api.Cmd{Kind: kind}}, api.Event{Ref: ref(0, 2, 0), Cmd: api.Cmd{Kind: kind}})
	}
	for _, client := range []int{math.MinInt, math.MaxInt, 256, 1 << 32} {
		l = append(l, api.Event{Ref: ref(client, 1, 0), Cmd: command("open")}, api.Event{Ref: ref(client, 1, 0), Cmd: command("expire")})
	}
	for _, client := range []int{0, 1, 2} {
		for _, c := range []api.Cmd{
			{Kind: api.CLock}, {Kind: api.CLock, Name: strings.Repeat("n", 17)}, {Kind: api.CLock, Name: "l", N: 1}, {Kind: api.CTouch, Name: "l"},
			{Kind: api.CClose, M: 1}, {Kind: api.CPut, Name: "m", Key: "a"}, {Kind: api.CPush, Name: "q", Val: text(strings.Repeat("t", 65))},
			{Kind: api.CAdd, Name: "t", Val: numb(1)}, {Kind: api.CMake, Name: "z", N: 6}, {Kind: api.CRead, Name: "t", N: 4},
		} {
			for req := 1; req < 6; req++ {
				l = append(l, api.Event{Ref: ref(client, 1, req), Cmd: c})
			}
		}
	}
	return append(l, api.Event{Ref: ref(0, 9, 0), Cmd: api.Cmd{Kind: api.COpen, Name: "l"}}, api.Event{Ref: ref(0, 1, 0), Cmd: api.Cmd{Kind: api.CExpire, Key: "a"}})
}

// near are the names of requests near a client's last one.
func near(s api.State, client int) []api.Ref {
	x := s.Sessions[client]
	l := []api.Ref{}
	for _, epoch := range []int{1, 2, x.Epoch - 1, x.Epoch, x.Epoch + 1, math.MaxInt} {
		for _, req := range []int{0, 1, x.Req - 1, x.Req, x.Req + 1, x.Req + 2, math.MaxInt} {
			if r := ref(client, epoch, req); !slices.Contains(l, r) {
				l = append(l, r)
			}
		}
	}
	return l
}

// apart puts marks on each list of an answer, spare room too, and tells whether all
// of them stay: no two lists share memory.
func apart(s api.State, outs []api.Out) bool {
	still := []func() bool{fill(outs, api.Out{Ref: ref(77, 77, 77)})}
	for i, o := range s.Objects {
		still = append(still, fill(o.Pairs, api.Pair{Key: strconv.Itoa(i)}), fill(o.Vals, numb(i)), fill(o.Refs, ref(i, i, i)))
	}
	all := s.Objects[:cap(s.Objects)]
	for i := range all {
		all[i] = api.Object{Name: "marked"}
	}
	return !slices.ContainsFunc(still, func(f func() bool) bool { return !f() })
}

// fill puts x all over l, its spare room too, and gives whether it is there still.
func fill[T comparable](l []T, x T) func() bool {
	all := l[:cap(l)]
	for i := range all {
		all[i] = x
	}
	return func() bool {
		return !slices.ContainsFunc(all, func(y T) bool { return y != x })
	}
}

// roomy is s, with a mark in the spare room behind each of its lists.
func roomy(s api.State) api.State {
	s = clone(s)
	for i, o := range s.Objects {
		s.Objects[i].Pairs = spare(o.Pairs, api.Pair{Key: "spare"})
		s.Objects[i].Vals = spare(o.Vals, numb(77))
		s.Objects[i].Refs = spare(o.Refs, ref(77, 77, 77))
	}
	s.Objects = spare(s.Objects, api.Object{Name: "spare"})
	return s
}

func spare[T any](l []T, x T) []T { return slices.Concat(l, []T{x, x})[:len(l)] }

// wide is what roomy gave, its spare room shown.
func wide(s api.State) api.State {
	s.Objects = slices.Clone(s.Objects[:len(s.Objects)+2])
	for i, o := range s.Objects[:len(s.Objects)-2] {
		s.Objects[i].Pairs, s.Objects[i].Vals, s.Objects[i].Refs = o.Pairs[:len(o.Pairs)+2], o.Vals[:len(o.Vals)+2], o.Refs[:len(o.Refs)+2]
	}
	return clone(s)
}

// answer is what Apply answers of s.
type answer struct {
	s    api.State
	outs []api.Out
}

func asked(s api.State, e api.Event) answer {
	t, outs := apply.Apply(s, e)
	return answer{t, outs}
}

func (x answer) is(y answer) bool { return same(x.s, y.s) && slices.Equal(x.outs, y.outs) }
