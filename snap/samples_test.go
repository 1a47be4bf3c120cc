package snap_test

import (
	"fmt"
	"math"
	"slices"
	"strconv"
	"strings"

	"phalanx/api"
)

const top = math.MaxInt

func ref(client, epoch, req int) api.Ref {
	return api.Ref{Client: client, Epoch: epoch, Req: req}
}

func objects(l ...api.Object) []api.Object { return l }
func values(l ...api.Value) []api.Value    { return l }
func failed(e api.Errno) api.Reply         { return api.Reply{Err: e} }
func valued(v api.Value) api.Reply         { return api.Reply{Val: v} }
func numb(n int) api.Value                 { return api.Value{Kind: api.VInt, N: n} }
func text(s string) api.Value              { return api.Value{Kind: api.VText, S: s} }
func bits(f uint64) api.Value              { return api.Value{Kind: api.VFloat, F: f} }
func float(f float64) api.Value            { return bits(math.Float64bits(f)) }

// nan is the one NaN that there is, inf and less the infinities.
const (
	nan  = 0x7ff8000000000000
	inf  = 0x7ff0000000000000
	less = 0xfff0000000000000
)

func aMap(name string, l ...api.Pair) api.Object {
	return api.Object{Name: name, Kind: api.OMap, Pairs: l}
}

func aQueue(name string, most int, l ...api.Value) api.Object {
	return api.Object{Name: name, Kind: api.OQueue, Cap: most, Vals: l}
}

func aLock(name string, l ...api.Ref) api.Object {
	return api.Object{Name: name, Kind: api.OLock, Refs: l}
}

func aGate(name string, n, round int, l ...api.Ref) api.Object {
	return api.Object{Name: name, Kind: api.OGate, Cap: n, Round: round, Refs: l}
}

func aMeter(name string, count int, sum, least, most uint64) api.Object {
	return api.Object{Name: name, Kind: api.OMeter, Meter: api.Meter{Count: count, Sum: sum, Least: least, Most: most}}
}

// opened is a session that is Live, its last request done; gone is one that has
// ended; doing is one whose last request waits.
func opened(epoch, req int, x api.Reply) api.Session {
	return api.Session{Live: true, Epoch: epoch, Req: req, Done: true, Reply: x}
}

func gone(epoch, req int, x api.Reply) api.Session {
	return api.Session{Epoch: epoch, Req: req, Done: true, Reply: x}
}

func doing(epoch, req int) api.Session {
	return api.Session{Live: true, Epoch: epoch, Req: req}
}

// state is one that has counted seven events.
func state(l []api.Object, sessions ...api.Session) api.State {
	s := api.State{Count: 7, Objects: l}
	copy(s.Sessions[:], sessions)
	return s
}

// long is a text of so many bytes, b first: the names of one length rise with b.
func long(b byte, size int) string {
	return string([]byte{b}) + strings.Repeat("\xff", size-1)
}

// fullest is a state with as many parts as there may be, each as long as it may be.
func fullest() api.State {
	s := api.State{Count: top}
	for i := range byte(api.MaxObjects) {
		o := aMap(long(i, api.MaxName))
		for j := range byte(api.MaxKeys) {
			o.Pairs = append(o.Pairs, api.Pair{Key: long(j, api.MaxText), Val: text(long(j, api.MaxText))})
		}
		s.Objects = append(s.Objects, o)
	}
	reply := api.Reply{Err: api.ErrUnlike, Val: text(long('r', api.MaxText))}
	s.Sessions = [5]api.Session{opened(top, top, reply), opened(top, top, reply), opened(top, top, reply), opened(top, top, reply), gone(top, top, reply)}
	return s
}

// waiting is a state in which four clients wait, two of them at a gate, two for what
// the other one holds.
func waiting() api.State {
	return state(
		objects(
			aGate("g", 3, 5, ref(4, 2, 9), ref(1, 1, 3)),
			aLock("k", ref(0, 1, 1), ref(2, 7, 2)),
			aLock("l", ref(2, 7, 1), ref(0, 1, 2)),
		),
		doing(1, 2), doing(1, 3), doing(7, 2), gone(3, 0, failed(api.ErrFull)), doing(2, 9),
	)
}

// ofEachKind is a state with an object of each kind.
func ofEachKind() api.State {
	return state(
		objects(
			aMap("\x00", api.Pair{Key: "", Val: numb(0)}, api.Pair{Key: "\x00", Val: text("")}, api.Pair{Key: "k", Val: float(1)}, api.Pair{Key: "\xff", Val: numb(math.MinInt)}),
			aLock("a", ref(0, 1, 4), ref(1, 1, 1)),
			aGate("b", 5, top),
			aQueue("c", 8, numb(top), bits(nan), bits(inf), bits(less), float(math.Copysign(0, -1)), bits(0), bits(1), text("\x00\xff")),
			aMeter("d", top, nan, less, nan),
			aMeter("e", 0, 0, 0, 0),
			aMap("ee"),
			aMeter(long('\xff', 16), 1, 1<<63, 1<<63, 1<<63),
		),
		opened(1, 4, valued(numb(-1))), doing(1, 1), gone(2, 2, api.Reply{Err: api.ErrUnlike, Val: text(long('t', 64))}), opened(top, 0, valued(bits(less))),
	)
}

// built are states of all sorts, at the ends of their numbers too.
func built() []api.State {
	l := []api.State{
		{}, {Count: 1}, {Count: 63}, {Count: 64}, {Count: 127}, {Count: 128}, {Count: 1<<31 - 1}, {Count: 1 << 31}, {Count: 1 << 62}, {Count: top - 1}, {Count: top},
		fullest(), waiting(), ofEachKind(),
		state(objects(aMap("m"))), state(objects(aQueue("m", 1))), state(objects(aQueue("m", 8, numb(1)))), state(objects(aLock("m"))), state(objects(aGate("m", 1, 0))), state(objects(aMeter("m", 0, 0, 0, 0))),
		state(objects(aMap(long('n', 16)))), state(objects(aGate("m", 5, 1), aMap("n"), aMap("o"))),
		state(objects(aLock("l", ref(0, 1, top), ref(1, top, top))), opened(1, top, api.Reply{}), doing(top, top)),
		state(objects(aLock("l", ref(0, 1, 1), ref(1, 1, 1), ref(2, 1, 1), ref(3, 1, 1))), opened(1, 2, valued(numb(4))), doing(1, 1), doing(1, 1), doing(1, 1)),
		state(objects(aGate("g", 5, 0, ref(3, 1, 1), ref(2, 1, 1), ref(1, 1, 1), ref(0, 1, 1))), doing(1, 1), doing(1, 1), doing(1, 1), doing(1, 1)),
		state(nil, opened(1, 0, api.Reply{})), state(nil, gone(1, 0, api.Reply{})), state(nil, api.Session{}, api.Session{}, api.Session{}, api.Session{}, opened(1, 0, api.Reply{})),
	}
	for e := range api.ErrWait + 1 {
		l = append(l, state(nil, opened(1, int(e), failed(e)), gone(2, 3, api.Reply{Err: e, Val: numb(int(e))})))
	}
	for _, v := range values(numb(0), numb(1), numb(-1), numb(math.MinInt), numb(top), bits(0), bits(nan), bits(1<<63), float(0.1), float(-2), text(""), text("a"), text("\x00"), text("é"), text("\xc3"), text(long('t', 64))) {
		l = append(l, state(objects(aMap("m", api.Pair{Key: "k", Val: v}), aQueue("q", 2, v, v)), opened(1, 1, valued(v))))
	}
	return l
}

// spoilt are states that may not be, each s with one thing that is wrong.
func spoilt(s api.State) []api.State {
	l := []api.State{}
	spoil := func(does func(*api.State)) {
		x := clone(s)
		does(&x)
		l = append(l, x)
	}
	for _, count := range []int{-1, -64, math.MinInt} {
		spoil(func(x *api.State) { x.Count = count })
	}
	nine := objects(aMap("1"), aMap("2"), aMap("3"), aMap("4"), aMap("5"), aMap("6"), aMap("7"), aMap("8"), aMap("9"))
	spoil(func(x *api.State) { x.Objects = nine })
	for _, o := range wrongObjects() {
		spoil(func(x *api.State) { x.Objects = objects(o) })
		spoil(func(x *api.State) { x.Objects = append(x.Objects, o) })
		spoil(func(x *api.State) { x.Objects = objects(aMap(" "), o) })
	}
	spoil(func(x *api.State) { x.Objects = objects(aMap("b"), aMap("a")) })
	spoil(func(x *api.State) { x.Objects = objects(aMap("a"), aLock("a")) })
	for client := range 5 {
		for _, own := range wrongSessions() {
			spoil(func(x *api.State) { x.Sessions[client] = own })
		}
	}
	spoil(func(x *api.State) {
		for client := range 5 {
			x.Sessions[client] = opened(1, 1, api.Reply{})
		}
	})
	return l
}

// wrongObjects are such as no state has.
func wrongObjects() []api.Object {
	one := api.Pair{Key: "k", Val: numb(1)}
	l := objects(
		api.Object{}, api.Object{Name: "~"}, api.Object{Name: "~", Kind: 6}, api.Object{Name: "~", Kind: -1},
		aMap(""), aMap(long('~', 17)), aMap(long('~', 20000)),
		aMap("~", api.Pair{Key: "k"}), aMap("~", one, one), aMap("~", one, api.Pair{Key: "a", Val: numb(1)}), aMap("~", api.Pair{Key: long('k', 65), Val: numb(1)}),
		aMap("~", api.Pair{Key: "k", Val: text(long('t', 65))}), aMap("~", api.Pair{Key: "k", Val: bits(inf + 1)}), aMap("~", api.Pair{Key: "k", Val: api.Value{Kind: 4}}),
		aQueue("~", 0), aQueue("~", 9), aQueue("~", -1), aQueue("~", 1, numb(1), numb(2)), aQueue("~", 2, api.Value{}), aQueue("~", 2, bits(math.MaxUint64)),
		aLock("~", ref(4, 9, 9)), aLock("~", ref(-1, 1, 1)), aLock("~", ref(5, 1, 1)), aLock("~", ref(0, 0, 1)), aLock("~", ref(0, 1, -1)), aLock("~", ref(0, 88, 1), ref(0, 88, 1)),
		aGate("~", 0, 0), aGate("~", 6, 0), aGate("~", 2, -1), aGate("~", 5, 0, ref(4, 9, 9)), aGate("~", 1, 0, ref(0, 1, 1)),
		aMeter("~", -1, 0, 0, 0), aMeter("~", 0, 1, 0, 0), aMeter("~", 0, 0, 0, 1), aMeter("~", 1, inf+1, 0, 0), aMeter("~", 1, 0, 1, 0), aMeter("~", 1, 0, 0, 1<<63),
	)
	for kind := api.OMap; kind <= api.OMeter; kind++ {
		o := api.Object{Name: "~", Kind: kind, Cap: 3, Pairs: []api.Pair{one}, Vals: values(numb(1)), Round: 1}
		o.Meter = api.Meter{Count: 1}
		l = append(l, o)
	}
	return l
}

// wrongSessions are such as no state has.
func wrongSessions() []api.Session {
	return []api.Session{
		{Done: true}, {Live: true}, {Req: 1}, {Reply: failed(1)}, doing(99, 1), doing(1, 0), gone(0, 1, api.Reply{}), gone(-1, 1, api.Reply{}), gone(1, -1, api.Reply{}),
		gone(1, 1, failed(19)), gone(1, 1, failed(-1)), gone(1, 1, failed(math.MaxInt)), gone(1, 1, valued(bits(inf+1))), gone(1, 1, valued(text(long('t', 65)))), gone(1, 1, valued(api.Value{Kind: 5})),
		{Epoch: 1, Req: 1}, {Live: true, Epoch: 1, Req: 1, Reply: failed(5)},
	}
}

// kinds are the commands' words.
var kinds = map[string]int{
	"open": api.COpen, "close": api.CClose, "touch": api.CTouch, "expire": api.CExpire,
	"make": api.CMake, "drop": api.CDrop, "size": api.CSize,
	"get": api.CGet, "put": api.CPut, "cut": api.CCut, "swap": api.CSwap,
	"push": api.CPush, "pop": api.CPop,
	"lock": api.CLock, "free": api.CFree, "wait": api.CWait,
	"add": api.CAdd, "read": api.CRead,
}

func count(s string) int {
	n, err := strconv.Atoi(s)
	if err != nil {
		panic(err)
	}
	return n
}

// command is what some words say: a kind, a name, and what else that names.
func command(s string) api.Cmd {
	words := strings.Fields(s)
	c := api.Cmd{Kind: kinds[words[0]]}
	if len(words) > 1 {
		c.Name = words[1]
	}
	switch words[0] {
	case "make":
		c.N, c.M = count(words[2]), count(words[3])
	case "read":
		c.N = count(words[2])
	case "get", "cut":
		c.Key = words[2]
	case "put":
		c.Key, c.Val = words[2], numb(count(words[3]))
	case "swap":
		c.Key, c.Old, c.Val = words[2], numb(count(words[3])), text(words[4])
	case "push":
		c.Val = text(words[2])
	case "add":
		c.Val = float(float64(count(words[2])) / 10)
	}
	return c
}

// event is what a text such as 0.1.2 lock l says.
func event(s string) api.Event {
	name, words, _ := strings.Cut(s, " ")
	parts := strings.Split(name, ".")
	return api.Event{Ref: ref(count(parts[0]), count(parts[1]), count(parts[2])), Cmd: command(words)}
}

// short is x in few words, all of them to be read.
func short(x any) string { return fmt.Sprintf("%.1200q", fmt.Sprint(x)) }

// apart puts marks on each list of an answer, spare room too, and tells whether all
// of them stay: no two lists share memory.
func apart(s api.State) bool {
	still := []func() bool{}
	for i, o := range s.Objects {
		still = append(still, fill(o.Pairs, api.Pair{Key: strconv.Itoa(i)}), fill(o.Vals, numb(i)), fill(o.Refs, ref(i, i, i)))
	}
	all := s.Objects[:cap(s.Objects)]
	for i := range all {
		all[i] = api.Object{Name: "marked"}
	}
	return !slices.ContainsFunc(still, func(f func() bool) bool { return !f() })
}

// fill puts x all over l, its spare room too, and gives whether it is there still.
func fill[T comparable](l []T, x T) func() bool {
	all := l[:cap(l)]
	for i := range all {
		all[i] = x
	}
	return func() bool {
		return !slices.ContainsFunc(all, func(y T) bool { return y != x })
	}
}

// roomy is s, with a mark in the spare room behind each of its lists.
func roomy(s api.State) api.State {
	s = clone(s)
	for i, o := range s.Objects {
		s.Objects[i].Pairs = spare(o.Pairs, api.Pair{Key: "spare"})
		s.Objects[i].Vals = spare(o.Vals, numb(77))
		s.Objects[i].Refs = spare(o.Refs, ref(77, 77, 77))
	}
	s.Objects = spare(s.Objects, api.Object{Name: "spare"})
	return s
}

func spare[T any](l []T, x T) []T { return slices.Concat(l, []T{x, x})[:len(l)] }

// wide is what roomy gave, its spare room shown.
func wide(s api.State) api.State {
	s.Objects = slices.Clone(s.Objects[:len(s.Objects)+2])
	for i, o := range s.Objects[:len(s.Objects)-2] {
		s.Objects[i].Pairs, s.Objects[i].Vals, s.Objects[i].Refs = o.Pairs[:len(o.Pairs)+2], o.Vals[:len(o.Vals)+2], o.Refs[:len(o.Refs)+2]
	}
	return clone(s)
}
