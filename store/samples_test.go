package store_test

import (
	"math"
	"slices"
	"strings"

	"phalanx/api"
)

func ref(client, epoch, req int) api.Ref {
	return api.Ref{Client: client, Epoch: epoch, Req: req}
}

// The first requests of five clients.
var (
	a = ref(0, 1, 1)
	b = ref(1, 1, 1)
	c = ref(2, 1, 1)
	d = ref(3, 1, 1)
	e = ref(4, 1, 1)
)

func refs(l ...api.Ref) []api.Ref           { return l }
func objects(l ...api.Object) []api.Object  { return l }
func vals(l ...api.Value) []api.Value       { return l }
func numb(n int) api.Value                  { return api.Value{Kind: api.VInt, N: n} }
func text(s string) api.Value               { return api.Value{Kind: api.VText, S: s} }
func bits(f uint64) api.Value               { return api.Value{Kind: api.VFloat, F: f} }
func float(f float64) api.Value             { return bits(math.Float64bits(f)) }
func pair(key string, v api.Value) api.Pair { return api.Pair{Key: key, Val: v} }
func pairs(l ...api.Pair) []api.Pair        { return l }

func aMap(name string, l ...api.Pair) api.Object {
	return api.Object{Name: name, Kind: api.OMap, Pairs: l}
}

func aQueue(name string, n int, l ...api.Value) api.Object {
	return api.Object{Name: name, Kind: api.OQueue, Cap: n, Vals: l}
}

func aLock(name string, l ...api.Ref) api.Object {
	return api.Object{Name: name, Kind: api.OLock, Refs: l}
}

func aGate(name string, n, round int, l ...api.Ref) api.Object {
	return api.Object{Name: name, Kind: api.OGate, Cap: n, Round: round, Refs: l}
}

func aMeter(name string, count int, sum, least, most float64) api.Object {
	m := api.Meter{Count: count, Sum: math.Float64bits(sum), Least: math.Float64bits(least), Most: math.Float64bits(most)}
	return api.Object{Name: name, Kind: api.OMeter, Meter: m}
}

func named(name string, o api.Object) api.Object { o.Name = name; return o }

// nan is the bits of the one NaN that there is, odd those of one that isn't it.
const (
	nan = 0x7ff8000000000000
	odd = 0x7ff8000000000001
)

// long is a text of n bytes.
func long(n int) string { return strings.Repeat("n", n) }

// full is n pairs whose keys rise.
func full(n int) []api.Pair {
	l := pairs()
	for i := range n {
		l = append(l, pair(string(rune('a'+i)), numb(i)))
	}
	return l
}

// good are objects that may be, of each kind, empty, full and between.
func good() []api.Object {
	top := math.MaxInt
	return objects(
		aMap("m"),
		aMap("m", pair("a", numb(1))),
		aMap("m", pair("", text("")), pair("a", float(-0.5)), pair(long(64), text(long(64)))),
		aMap("m", full(7)...),
		aMap("m", full(8)...),
		aQueue("m", 1),
		aQueue("m", 1, numb(5)),
		aQueue("m", 2, text("x")),
		aQueue("m", 8, numb(1), bits(nan), text("")),
		aQueue("m", 8, slices.Repeat(vals(numb(math.MinInt)), 8)...),
		aLock("m"),
		aLock("m", a),
		aLock("m", b, a),
		aLock("m", c, a, e),
		aLock("m", ref(3, 7, 0), ref(0, 2, 1), b, c, ref(4, top, top)),
		aGate("m", 1, 0),
		aGate("m", 1, top),
		aGate("m", 2, 0),
		aGate("m", 2, 7, a),
		aGate("m", 2, top-1, b),
		aGate("m", 2, top, b),
		aGate("m", 3, top, b),
		aGate("m", 3, 1, ref(1, 2, 1)),
		aGate("m", 5, 3, d, b, a, ref(2, 9, 9)),
		aMeter("m", 0, 0, 0, 0),
		aMeter("m", 1, 1, 1, 1),
		aMeter("m", 3, 4.5, -1, 5),
		aMeter("m", top-1, 2, 0, 1),
		aMeter("m", top, 2, math.Copysign(0, -1), 0),
		aMeter("m", 2, math.Inf(1), 1, math.Inf(1)),
	)
}

// beyond are objects that may not be, each for one thing that is wrong.
func beyond() []api.Object {
	l := objects(
		aMap("m", full(9)...),
		aMap("m", pair("b", numb(1)), pair("a", numb(1))),
		aMap("m", pair("a", numb(1)), pair("a", numb(1))),
		aMap("m", pair("a", api.Value{})),
		aMap("m", pair(long(65), numb(1))),
		aMap("m", pair("a", text(long(65)))),
		aMap("m", pair("a", bits(odd))),
		aQueue("m", 0),
		aQueue("m", -1),
		aQueue("m", 9),
		aQueue("m", math.MaxInt),
		aQueue("m", math.MinInt),
		aQueue("m", 1, numb(1), numb(2)),
		aQueue("m", 8, slices.Repeat(vals(numb(1)), 9)...),
		aQueue("m", 2, numb(1), api.Value{}),
		aQueue("m", 2, api.Value{Kind: 4}),
		aLock("m", api.Ref{}),
		aLock("m", a, ref(5, 1, 1)),
		aLock("m", a, ref(0, 2, 1)),
		aLock("m", a, ref(1, 1, -1)),
		aLock("m", a, b, c, d, e, a),
		aGate("m", 0, 0),
		aGate("m", -1, 0),
		aGate("m", 6, 0),
		aGate("m", math.MaxInt, 0),
		aGate("m", 1, 0, a),
		aGate("m", 2, 0, a, b),
		aGate("m", 5, 0, a, b, c, d, e),
		aGate("m", 3, 0, a, ref(0, 2, 1)),
		aGate("m", 3, 0, api.Ref{}),
		aGate("m", 2, -1),
		aGate("m", 2, math.MinInt, a),
		aMeter("m", -1, 0, 0, 0),
		aMeter("m", math.MinInt, 1, 1, 1),
		aMeter("m", 0, 1, 0, 0),
		aMeter("m", 0, 0, 0, math.Copysign(0, -1)),
		aMeter("m", 1, 1, 2, 1),
		api.Object{Name: "m", Kind: api.OMeter, Meter: api.Meter{Count: 1, Sum: odd}},
	)
	for _, o := range good() {
		for _, name := range []string{"", long(17), long(18), long(256 + 16), long(70000)} {
			l = append(l, named(name, o))
		}
		for _, kind := range []int{math.MinInt, -1, 0, 6, 7, 257, math.MaxInt} {
			x := o
			x.Kind = kind
			l = append(l, x)
		}
	}
	return append(l, mixed()...)
}

// mixed are objects that have, beside what their kinds have, one thing more.
func mixed() []api.Object {
	has := map[int]string{api.OMap: "p", api.OQueue: "cv", api.OLock: "r", api.OGate: "cro", api.OMeter: "m"}
	l := objects()
	for _, o := range good() {
		for _, part := range "cpvrom" {
			if strings.ContainsRune(has[o.Kind], part) {
				continue
			}
			for _, n := range []int{1, -1, 3, math.MaxInt, math.MinInt} {
				l = append(l, given(o, part, n))
			}
		}
	}
	return l
}

// given is o with one thing more, of some greatness n.
func given(o api.Object, part rune, n int) api.Object {
	switch part {
	case 'c':
		o.Cap = n
	case 'p':
		o.Pairs = pairs(pair("a", numb(n)))
	case 'v':
		o.Vals = vals(numb(n))
	case 'r':
		o.Refs = refs(ref(2, 1, max(n, 0)))
	case 'o':
		o.Round = n
	case 'm':
		o.Meter.Count = n
	}
	return o
}

// around are rows in which o, whose name is m, stands alone, and first, last and
// amidst of others, up to as many as there may be.
func around(o api.Object) [][]api.Object {
	ahead := objects(aMap("a", full(2)...), aLock("b", a, c), aGate("c", 3, 4, b), aQueue("d", 2, numb(1)), aMeter("l", 1, 1, 1, 1))
	behind := objects(aLock("m\x00", b), aMap("mm"), aGate("o", 4, 0, a, c, d), aLock("p", d, b, a), aMeter("q", 0, 0, 0, 0))
	return [][]api.Object{
		objects(o),
		slices.Concat(ahead[:3], objects(o)),
		slices.Concat(objects(o), behind[:3]),
		slices.Concat(ahead, objects(o), behind[:2]),
		slices.Concat(ahead[3:], objects(o), behind),
	}
}

// lists are objects that may be.
func lists() [][]api.Object {
	all := [][]api.Object{nil, objects()}
	for _, o := range good() {
		all = append(all, around(o)...)
	}
	return all
}

// wrong are lists of objects that may not be.
func wrong() [][]api.Object {
	all := [][]api.Object{make([]api.Object, 1), make([]api.Object, 8), make([]api.Object, 1000), good(),
		slices.Repeat(good()[:1], 2), objects(aMap("n"), aMap("m")), objects(aLock("m"), aGate("m", 2, 0)), named9()}
	for _, o := range beyond() {
		all = append(all, around(o)...)
	}
	return all
}

// named9 is one object more than there may be.
func named9() []api.Object {
	l := objects()
	for i := range 9 {
		l = append(l, aMap(string(rune('a'+i+'m'-'e'))))
	}
	return l
}

// bad are requests that may not be.
func bad() []api.Ref {
	l := refs(api.Ref{}, ref(0, 0, 1), ref(0, 1, -1), ref(4, -1, 1), ref(1, math.MinInt, 1), ref(1, 1, math.MinInt))
	for _, n := range []int{math.MinInt, -256, -1, 5, 6, 256, 1 << 32, math.MaxInt} {
		l = append(l, ref(n, 1, 1))
	}
	return l
}

// askers are requests that may be: of the clients' sessions that stand in good
// objects, and of others.
func askers() []api.Ref {
	top := math.MaxInt
	return refs(a, b, c, d, e, ref(0, 1, 9), ref(0, 2, 0), ref(0, 2, 3), ref(1, 2, 4), ref(2, 9, 0), ref(3, 7, top), ref(4, top, 1))
}

// of is all commands of the name that may be: each kind, with keys and values of
// all sorts.
func of(name string) []api.Cmd {
	l := []api.Cmd{}
	for _, kind := range []int{api.CDrop, api.CPop, api.CLock, api.CFree, api.CWait, api.CSize} {
		l = append(l, api.Cmd{Kind: kind, Name: name})
	}
	for kind := 1; kind < 6; kind++ {
		l = append(l, api.Cmd{Kind: api.CMake, Name: name, N: kind, M: []int{0, 0, 8, 0, 3, 0}[kind]})
	}
	for n := range 4 {
		l = append(l, api.Cmd{Kind: api.CRead, Name: name, N: n})
	}
	for _, f := range []float64{0, math.Copysign(0, -1), 1.5, math.Inf(1), math.Inf(-1), math.Float64frombits(nan)} {
		l = append(l, api.Cmd{Kind: api.CAdd, Name: name, Val: float(f)})
	}
	for _, v := range vals(numb(-3), float(2), text(long(64))) {
		l = append(l, api.Cmd{Kind: api.CPush, Name: name, Val: v})
	}
	for _, key := range []string{"", "a", "ab", "g", "h", long(64)} {
		l = append(l, ofKey(name, key)...)
	}
	return l
}

// ofKey are those that name a key.
func ofKey(name, key string) []api.Cmd {
	l := []api.Cmd{{Kind: api.CGet, Name: name, Key: key}, {Kind: api.CCut, Name: name, Key: key}}
	for _, v := range vals(numb(6), text("")) {
		l = append(l, api.Cmd{Kind: api.CPut, Name: name, Key: key, Val: v})
	}
	for _, old := range vals(api.Value{}, numb(1), numb(6), text("")) {
		for _, v := range vals(api.Value{}, numb(7)) {
			l = append(l, api.Cmd{Kind: api.CSwap, Name: name, Key: key, Old: old, Val: v})
		}
	}
	return l
}

// ill are commands of the name that may not be, and some of other kinds.
func ill(name string) []api.Cmd {
	l := []api.Cmd{}
	for _, kind := range []int{math.MinInt, -1, 0, 1, 2, 3, 18, 19, 260, math.MaxInt} {
		l = append(l, api.Cmd{Kind: kind}, api.Cmd{Kind: kind, Name: name}, api.Cmd{Kind: kind, Name: long(17), N: 1})
	}
	for kind := api.CMake; kind <= api.CSize; kind++ {
		l = append(l, api.Cmd{Kind: kind}, api.Cmd{Kind: kind, Name: name, M: 9}, api.Cmd{Kind: kind, Name: long(17), Val: numb(1)}, api.Cmd{Kind: kind, Name: long(17)},
			api.Cmd{Kind: kind, Name: long(17), Key: "a", Val: float(1)}, api.Cmd{Kind: kind, Name: name, Key: long(65)}, api.Cmd{Kind: kind, Name: name, N: 6})
	}
	return append(l,
		api.Cmd{Kind: api.CPut, Name: name, Key: "a"},
		api.Cmd{Kind: api.CPut, Name: name, Key: "a", Val: text(long(65))},
		api.Cmd{Kind: api.CPut, Name: name, Key: long(65), Val: numb(1)},
		api.Cmd{Kind: api.CSwap, Name: name, Key: "a", Old: text(long(65)), Val: bits(odd)},
		api.Cmd{Kind: api.CSwap, Name: name, Key: "a", Val: bits(odd)},
		api.Cmd{Kind: api.CPush, Name: name},
		api.Cmd{Kind: api.CPush, Name: name, Val: api.Value{Kind: 4}},
		api.Cmd{Kind: api.CAdd, Name: name},
		api.Cmd{Kind: api.CAdd, Name: name, Val: numb(1)},
		api.Cmd{Kind: api.CAdd, Name: name, Val: bits(odd)},
		api.Cmd{Kind: api.CRead, Name: name, N: 4},
		api.Cmd{Kind: api.CRead, Name: name, N: -1},
		api.Cmd{Kind: api.CMake, Name: name},
		api.Cmd{Kind: api.CMake, Name: name, N: 1, M: 1},
		api.Cmd{Kind: api.CMake, Name: name, N: 2},
		api.Cmd{Kind: api.CMake, Name: name, N: 2, M: 9},
		api.Cmd{Kind: api.CMake, Name: name, N: 4, M: 6},
		api.Cmd{Kind: api.CMake, Name: name, N: 6},
	)
}
