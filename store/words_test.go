package store_test

import (
	"maps"
	"math"
	"slices"

	"phalanx/api"
	"phalanx/cmd"
	"phalanx/dict"
	"phalanx/gate"
	"phalanx/lock"
	"phalanx/meter"
	"phalanx/num"
	"phalanx/queue"
	"phalanx/value"
)

// The words of the chapter, done one by one.

// answer is what a call answers; where it has no such result, nothing.
type answer struct {
	l     []api.Object
	reply api.Reply
	later bool
	outs  []api.Out
}

// right tells whether the objects may be.
func right(l []api.Object) bool {
	names := []string{}
	for _, o := range l {
		if !rightObject(o) {
			return false
		}
		names = append(names, o.Name)
	}
	return len(l) <= 8 && slices.Equal(names, slices.Compact(slices.Sorted(slices.Values(names))))
}

// rightObject takes away what the kind has: all else is zero.
func rightObject(o api.Object) bool {
	good := false
	switch o.Kind {
	case 1:
		good = dict.Right(o.Pairs)
		o.Pairs = nil
	case 2:
		good = queue.Right(o.Cap, o.Vals)
		o.Cap, o.Vals = 0, nil
	case 3:
		good = lock.Right(o.Refs)
		o.Refs = nil
	case 4:
		good = gate.Right(o.Cap, o.Refs) && o.Round > -1
		o.Cap, o.Refs, o.Round = 0, nil, 0
	case 5:
		good = meter.Right(o.Meter)
		o.Meter = api.Meter{}
	}
	rest := api.Object{Name: o.Name, Kind: o.Kind}
	return good && sameObject(o, rest) && len(o.Name) > 0 && len(o.Name) < 17
}

// rightReply tells whether the reply may be.
func rightReply(r api.Reply) bool {
	return r.Err > -1 && r.Err < 19 && value.Check(r.Val) == api.OK
}

// fitting is, by a command's kind, the kind of the objects that it fits; 0: any.
func fitting(kind int) int {
	return map[int]int{
		api.CGet: api.OMap, api.CPut: api.OMap, api.CCut: api.OMap, api.CSwap: api.OMap,
		api.CPush: api.OQueue, api.CPop: api.OQueue,
		api.CLock: api.OLock, api.CFree: api.OLock,
		api.CWait: api.OGate,
		api.CAdd:  api.OMeter, api.CRead: api.OMeter,
	}[kind]
}

// does is what Do answers.
func does(l []api.Object, r api.Ref, c api.Cmd) answer {
	refused := func(e api.Errno) answer { return answer{l: l, reply: api.Reply{Err: e}} }
	if !right(l) || !cmd.Right(r) || c.Kind < 4 || c.Kind > 17 {
		return refused(api.ErrArg)
	}
	if e := cmd.Check(c); e != api.OK {
		return refused(e)
	}
	all := map[string]api.Object{}
	for _, o := range clone(l) {
		all[o.Name] = o
	}
	o, is := all[c.Name]
	switch {
	case c.Kind == api.CMake && is:
		return refused(api.ErrTwice)
	case c.Kind == api.CMake && len(l) == 8:
		return refused(api.ErrFull)
	case c.Kind == api.CMake:
		all[c.Name] = api.Object{Name: c.Name, Kind: c.N, Cap: c.M}
		return answer{l: listed(all)}
	case !is:
		return refused(api.ErrNone)
	case fitting(c.Kind) != 0 && fitting(c.Kind) != o.Kind:
		return refused(api.ErrKind)
	case c.Kind == api.CDrop && len(o.Refs) > 0:
		return refused(api.ErrBusy)
	case c.Kind == api.CDrop:
		delete(all, c.Name)
		return answer{l: listed(all)}
	}
	o, x := ofOne(o, r, c)
	if x.reply.Err != api.OK {
		x.l = l
		return x
	}
	all[c.Name] = o
	x.l = listed(all)
	return x
}

// listed is all of them, in the order of their names.
func listed(all map[string]api.Object) []api.Object {
	l := []api.Object{}
	for _, name := range slices.Sorted(maps.Keys(all)) {
		l = append(l, all[name])
	}
	return l
}

// ofOne is what a command does to an object that it fits, which it may change.
func ofOne(o api.Object, r api.Ref, c api.Cmd) (api.Object, answer) {
	switch c.Kind {
	case api.CSize:
		size := map[int]int{api.OMap: len(o.Pairs), api.OQueue: len(o.Vals), api.OLock: len(o.Refs), api.OGate: len(o.Refs), api.OMeter: o.Meter.Count}
		return o, valued(numb(size[o.Kind]))
	case api.CPush, api.CPop:
		return ofQueue(o, c)
	case api.CLock, api.CFree:
		return ofLock(o, r, c)
	case api.CWait:
		return ofGate(o, r)
	case api.CAdd, api.CRead:
		return ofMeter(o, c)
	}
	return ofMap(o, c)
}

func valued(v api.Value) answer           { return answer{reply: api.Reply{Val: v}} }
func failed(e api.Errno) answer           { return answer{reply: api.Reply{Err: e}} }
func later() answer                       { return answer{later: true} }
func told(l ...api.Out) answer            { return answer{outs: l} }
func okTo(r api.Ref) api.Out              { return api.Out{Ref: r} }
func (x answer) on(l []api.Object) answer { x.l = l; return x }

func ofMap(o api.Object, c api.Cmd) (api.Object, answer) {
	all := map[string]api.Value{}
	for _, p := range o.Pairs {
		all[p.Key] = p.Val
	}
	there, is := all[c.Key]
	x := answer{}
	switch {
	case !is && (c.Kind == api.CGet || c.Kind == api.CCut):
		return o, failed(api.ErrNone)
	case c.Kind == api.CGet:
		return o, valued(there)
	case c.Kind == api.CCut:
		x = valued(there)
		delete(all, c.Key)
	case c.Kind == api.CSwap && there != c.Old:
		x.reply = api.Reply{Err: api.ErrUnlike, Val: there}
		return o, x
	case c.Val.Kind == api.VNone:
		delete(all, c.Key)
	case !is && len(all) == 8:
		return o, failed(api.ErrFull)
	default:
		all[c.Key] = c.Val
	}
	o.Pairs = nil
	for _, key := range slices.Sorted(maps.Keys(all)) {
		o.Pairs = append(o.Pairs, api.Pair{Key: key, Val: all[key]})
	}
	return o, x
}

func ofQueue(o api.Object, c api.Cmd) (api.Object, answer) {
	switch {
	case c.Kind == api.CPush && len(o.Vals) == o.Cap:
		return o, failed(api.ErrFull)
	case c.Kind == api.CPush:
		o.Vals = append(o.Vals, c.Val)
		return o, answer{}
	case len(o.Vals) == 0:
		return o, failed(api.ErrEmpty)
	}
	x := valued(o.Vals[0])
	o.Vals = o.Vals[1:]
	return o, x
}

func ofLock(o api.Object, r api.Ref, c api.Cmd) (api.Object, answer) {
	switch {
	case c.Kind == api.CLock && slices.ContainsFunc(o.Refs, ofClient(r)):
		return o, failed(api.ErrHeld)
	case c.Kind == api.CLock:
		o.Refs = append(o.Refs, r)
		return o, answer{later: len(o.Refs) > 1}
	case len(o.Refs) == 0 || !ofSession(r)(o.Refs[0]):
		return o, failed(api.ErrOwner)
	}
	o.Refs = o.Refs[1:]
	if len(o.Refs) == 0 {
		return o, answer{}
	}
	return o, told(okTo(o.Refs[0]))
}

func ofGate(o api.Object, r api.Ref) (api.Object, answer) {
	switch {
	case slices.ContainsFunc(o.Refs, ofClient(r)):
		return o, failed(api.ErrHeld)
	case len(o.Refs) < o.Cap-1:
		o.Refs = append(o.Refs, r)
		return o, later()
	case o.Round == math.MaxInt:
		return o, failed(api.ErrFull)
	}
	x := valued(numb(o.Round))
	for _, other := range o.Refs {
		x.outs = append(x.outs, api.Out{Ref: other, Reply: x.reply})
	}
	o.Refs = nil
	o.Round++
	return o, x
}

func ofMeter(o api.Object, c api.Cmd) (api.Object, answer) {
	m, f := o.Meter, c.Val.F
	switch {
	case c.Kind == api.CRead && c.N == 0:
		return o, valued(numb(m.Count))
	case c.Kind == api.CRead && m.Count == 0:
		return o, failed(api.ErrEmpty)
	case c.Kind == api.CRead:
		return o, valued(bits([]uint64{m.Sum, m.Least, m.Most}[c.N-1]))
	case m.Count == math.MaxInt:
		return o, failed(api.ErrFull)
	case m.Count == 0:
		o.Meter = api.Meter{Count: 1, Sum: f, Least: f, Most: f}
	default:
		o.Meter = api.Meter{Count: m.Count + 1, Sum: num.Add(m.Sum, f), Least: num.Least(m.Least, f), Most: num.Most(m.Most, f)}
	}
	return o, answer{}
}

// drops is what Drop answers.
func drops(l []api.Object, r api.Ref) answer {
	if !right(l) {
		return answer{l: l}
	}
	x := answer{l: clone(l)}
	for i, o := range l {
		rest := slices.DeleteFunc(slices.Clone(o.Refs), ofSession(r))
		x.l[i].Refs = rest
		if o.Kind == api.OLock && len(rest) > 0 && rest[0] != o.Refs[0] {
			x.outs = append(x.outs, okTo(rest[0]))
		}
	}
	return x
}

func ofClient(r api.Ref) func(api.Ref) bool {
	return func(x api.Ref) bool { return x.Client == r.Client }
}

func ofSession(r api.Ref) func(api.Ref) bool {
	return func(x api.Ref) bool { return x.Client == r.Client && x.Epoch == r.Epoch }
}

// What is the same: a list that holds nothing may be nil or empty.

func sameObject(a, b api.Object) bool {
	return a.Name == b.Name && a.Kind == b.Kind && a.Cap == b.Cap && a.Round == b.Round && a.Meter == b.Meter &&
		slices.Equal(a.Pairs, b.Pairs) && slices.Equal(a.Vals, b.Vals) && slices.Equal(a.Refs, b.Refs)
}

func sameObjects(a, b []api.Object) bool { return slices.EqualFunc(a, b, sameObject) }

func (x answer) is(y answer) bool {
	return sameObjects(x.l, y.l) && x.reply == y.reply && x.later == y.later && slices.Equal(x.outs, y.outs)
}

// clone is l in memory of its own.
func clone(l []api.Object) []api.Object {
	own := slices.Clone(l)
	for i, o := range own {
		own[i].Pairs, own[i].Vals, own[i].Refs = slices.Clone(o.Pairs), slices.Clone(o.Vals), slices.Clone(o.Refs)
	}
	return own
}
