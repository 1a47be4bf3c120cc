package cmd_test

import (
	"fmt"
	"math"
	"math/rand"
	"slices"
	"strings"
	"testing"

	"phalanx/api"
	"phalanx/cmd"
	"phalanx/value"
	"phalanx/wire"
)

const (
	one uint64 = 0x3ff0000000000000
	nan uint64 = 0x7ff8000000000000
)

func ref(client, epoch, req int) api.Ref { return api.Ref{Client: client, Epoch: epoch, Req: req} }
func number(n int) api.Item              { return api.Item{Kind: api.IInt, N: n} }
func text(s string) api.Item             { return api.Item{Kind: api.IText, S: s} }
func row(l ...api.Item) []api.Item       { return l }
func vInt(n int) api.Value               { return api.Value{Kind: api.VInt, N: n} }
func vFloat(f uint64) api.Value          { return api.Value{Kind: api.VFloat, F: f} }
func vText(s string) api.Value           { return api.Value{Kind: api.VText, S: s} }

// short is x in few words, all of them to be read.
func short(x any) string { return fmt.Sprintf("%.300q", fmt.Sprint(x)) }

// event is one with the request's name 2.3.4, but of the kinds that have none.
func event(c api.Cmd) api.Event {
	e := api.Event{Ref: ref(2, 3, 4), Cmd: c}
	if c.Kind == api.COpen || c.Kind == api.CExpire {
		e.Ref.Req = 0
	}
	return e
}

// numbers are those at which something changes, and those far off.
func numbers() []int {
	return []int{math.MinInt, math.MinInt + 1, -256, -1, 0, 1, 2, 3, 4, 5, 6, 7, 8, 9, 255, 256, 1 << 32, math.MaxInt - 1, math.MaxInt}
}

// kinds are the eighteen, and such as are none.
func kinds() []int {
	l := []int{math.MinInt, -256, -1, 19, 20, 256, 257, 1<<32 + 1, math.MaxInt}
	for k := range 19 {
		l = append(l, k)
	}
	return l
}

// values are such as may be, and such as may not.
func values() []api.Value {
	return []api.Value{
		{}, vInt(0), vInt(-5), vFloat(0), vFloat(one), vText(""), vText(strings.Repeat("v", 64)),
		vText(strings.Repeat("v", 65)), vFloat(nan + 1), {N: 1}, {S: strings.Repeat("v", 65)}, {Kind: 4}, {Kind: api.VInt, S: "a"},
	}
}

// some are commands that hold anything: each kind with each choice of these.
func some() []api.Cmd {
	l := []api.Cmd{}
	for _, k := range kinds() {
		for _, name := range []string{"", "m", strings.Repeat("n", 16), strings.Repeat("n", 17)} {
			for _, key := range []string{"", "a", strings.Repeat("k", 64), strings.Repeat("k", 65)} {
				for _, v := range values() {
					for _, n := range []int{-1, 0, 2, 3, 4, 6} {
						for _, m := range []int{-1, 0, 1, 5, 6} {
							l = append(l, api.Cmd{Kind: k, Name: name, Key: key, Val: v, N: n, M: m})
						}
					}
				}
			}
		}
	}
	return l
}

// swaps are commands with both values: of each kind, with each two of the values.
func swaps() []api.Cmd {
	l := []api.Cmd{}
	for _, k := range kinds() {
		for _, name := range []string{"", "m", strings.Repeat("n", 17)} {
			for _, key := range []string{"", strings.Repeat("k", 64), strings.Repeat("k", 65)} {
				for _, v := range values() {
					for _, old := range values() {
						l = append(l, api.Cmd{Kind: k, Name: name, Key: key, Val: v, Old: old})
						l = append(l, api.Cmd{Kind: k, Name: name, Key: key, Val: v, Old: old, N: 1})
					}
				}
			}
		}
	}
	return l
}

// sizes are commands of each kind with each two numbers.
func sizes() []api.Cmd {
	l := []api.Cmd{}
	for _, k := range kinds() {
		for _, n := range numbers() {
			for _, m := range numbers() {
				for _, name := range []string{"", "m", strings.Repeat("n", 17)} {
					l = append(l, api.Cmd{Kind: k, Name: name, N: n, M: m})
				}
			}
		}
	}
	return l
}

// all are the commands of those three.
func all() []api.Cmd { return slices.Concat(some(), swaps(), sizes()) }

// good are commands that may be: of each kind what it names, at all bounds.
func good() []api.Cmd {
	l := []api.Cmd{{Kind: api.COpen}, {Kind: api.CClose}, {Kind: api.CTouch}, {Kind: api.CExpire}}
	for _, name := range []string{"m", "\x00", "é", strings.Repeat("\xff", 16)} {
		l = append(l, made(name)...)
		for _, k := range []int{api.CDrop, api.CPop, api.CLock, api.CFree, api.CWait, api.CSize} {
			l = append(l, api.Cmd{Kind: k, Name: name})
		}
		for n := range 4 {
			l = append(l, api.Cmd{Kind: api.CRead, Name: name, N: n})
		}
		for _, f := range []uint64{0, 1 << 63, one, nan, math.Float64bits(math.Inf(-1))} {
			l = append(l, api.Cmd{Kind: api.CAdd, Name: name, Val: vFloat(f)})
		}
		for _, v := range []api.Value{vInt(0), vInt(math.MinInt), vFloat(one), vText(""), vText(strings.Repeat("\x80", 64))} {
			l = append(l, api.Cmd{Kind: api.CPush, Name: name, Val: v})
			l = append(l, keyed(name, v)...)
		}
	}
	return l
}

// made are all makings of objects of that name.
func made(name string) []api.Cmd {
	l := []api.Cmd{}
	for _, k := range []int{api.OMap, api.OLock, api.OMeter} {
		l = append(l, api.Cmd{Kind: api.CMake, Name: name, N: k})
	}
	for i := range 8 {
		l = append(l, api.Cmd{Kind: api.CMake, Name: name, N: api.OQueue, M: i + 1})
	}
	for i := range 5 {
		l = append(l, api.Cmd{Kind: api.CMake, Name: name, N: api.OGate, M: i + 1})
	}
	return l
}

// keyed are commands at a map of that name, with that value.
func keyed(name string, v api.Value) []api.Cmd {
	l := []api.Cmd{}
	for _, key := range []string{"", "a", strings.Repeat("\x00", 64)} {
		l = append(l,
			api.Cmd{Kind: api.CGet, Name: name, Key: key},
			api.Cmd{Kind: api.CCut, Name: name, Key: key},
			api.Cmd{Kind: api.CPut, Name: name, Key: key, Val: v},
			api.Cmd{Kind: api.CSwap, Name: name, Key: key},
			api.Cmd{Kind: api.CSwap, Name: name, Key: key, Val: v},
			api.Cmd{Kind: api.CSwap, Name: name, Key: key, Old: v},
			api.Cmd{Kind: api.CSwap, Name: name, Key: key, Old: v, Val: vInt(7)},
		)
	}
	return l
}

// table is what a kind names, as the chapter's table has it.
func table(kind int) (string, bool) {
	names := []string{"", "", "", "", "Name N M", "Name", "Name Key", "Name Key Val", "Name Key", "Name Key Val Old", "Name Val",
		"Name", "Name", "Name", "Name", "Name Val", "Name N", "Name", ""}
	if kind < 1 || kind > 18 {
		return "", false
	}
	return names[kind], true
}

// may is Check by what the chapter's words say, one behind the other.
func may(c api.Cmd) api.Errno {
	names, is := table(c.Kind)
	if !is {
		return api.ErrArg
	}
	rest := c
	for _, name := range strings.Fields(names) {
		switch name {
		case "Name":
			rest.Name = ""
		case "Key":
			rest.Key = ""
		case "Val":
			rest.Val = api.Value{}
		case "Old":
			rest.Old = api.Value{}
		case "N":
			rest.N = 0
		case "M":
			rest.M = 0
		}
	}
	rest.Kind = 0
	for _, x := range []struct {
		applies bool
		e       api.Errno
	}{
		{rest != api.Cmd{}, api.ErrArg},
		{names != "" && c.Name == "", api.ErrArg},
		{len(c.Name) > 16, api.ErrLong},
		{len(c.Key) > 64, api.ErrLong},
		{value.Check(c.Old) != api.OK, value.Check(c.Old)},
		{value.Check(c.Val) != api.OK, value.Check(c.Val)},
		{(c.Kind == api.CPut || c.Kind == api.CPush) && c.Val == api.Value{}, api.ErrArg},
		{c.Kind == api.CAdd && c.Val.Kind != api.VFloat, api.ErrKind},
		{c.Kind == api.CMake && !slices.Contains(made(c.Name), c), api.ErrArg},
		{c.Kind == api.CRead && !slices.Contains([]int{0, 1, 2, 3}, c.N), api.ErrArg},
	} {
		if x.applies {
			return x.e
		}
	}
	return api.OK
}

// P9.1

func TestCheckKnown(t *testing.T) {
	long, name17, key65 := vText(strings.Repeat("v", 65)), strings.Repeat("n", 17), strings.Repeat("k", 65)
	known := []struct {
		c api.Cmd
		e api.Errno
	}{
		{api.Cmd{Kind: api.COpen}, api.OK},
		{api.Cmd{Kind: api.CExpire}, api.OK},
		{api.Cmd{Kind: 0}, api.ErrArg},
		{api.Cmd{Kind: 19}, api.ErrArg},
		{api.Cmd{Kind: -1}, api.ErrArg},
		{api.Cmd{Kind: api.COpen, Name: "m"}, api.ErrArg},
		{api.Cmd{Kind: api.CTouch, N: 1}, api.ErrArg},
		{api.Cmd{Kind: api.CExpire, Name: name17}, api.ErrArg},
		{api.Cmd{Kind: api.CPut, Name: "m", Key: "a", Val: vInt(1)}, api.OK},
		{api.Cmd{Kind: api.CPut, Name: "m", Val: vInt(1)}, api.OK},
		{api.Cmd{Kind: api.CPut, Name: "m", Key: "a"}, api.ErrArg},
		{api.Cmd{Kind: api.CPut, Name: "m", Key: key65}, api.ErrLong},
		{api.Cmd{Kind: api.CPut, Name: "m", Key: "a", Val: vInt(1), N: 1}, api.ErrArg},
		{api.Cmd{Kind: api.CPut, Key: "a", Val: vInt(1)}, api.ErrArg},
		{api.Cmd{Kind: api.CPut, Name: "m", Key: "a", Val: long}, api.ErrLong},
		{api.Cmd{Kind: api.CPut, Name: "m", Key: key65, Val: vFloat(nan + 1)}, api.ErrLong},
		{api.Cmd{Kind: api.CGet, Name: "m"}, api.OK},
		{api.Cmd{Kind: api.CGet, Name: "m", Key: key65[1:]}, api.OK},
		{api.Cmd{Kind: api.CGet, Name: "m", Key: key65}, api.ErrLong},
		{api.Cmd{Kind: api.CGet, Key: key65}, api.ErrArg},
		{api.Cmd{Kind: api.CGet, Name: "m", Val: long}, api.ErrArg},
		{api.Cmd{Kind: api.CPush, Name: "q"}, api.ErrArg},
		{api.Cmd{Kind: api.CPush, Name: "q", Val: vText("")}, api.OK},
		{api.Cmd{Kind: api.CPush, Name: name17}, api.ErrLong},
		{api.Cmd{Kind: api.CPop, Name: "q", Val: vInt(0)}, api.ErrArg},
		{api.Cmd{Kind: api.CSwap, Name: "m", Key: "a"}, api.OK},
		{api.Cmd{Kind: api.CSwap, Name: "m", Val: long, Old: vFloat(nan + 1)}, api.ErrArg},
		{api.Cmd{Kind: api.CSwap, Name: "m", Val: vFloat(nan + 1), Old: long}, api.ErrLong},
		{api.Cmd{Kind: api.CAdd, Name: "t", Val: vFloat(one)}, api.OK},
		{api.Cmd{Kind: api.CAdd, Name: "t", Val: vFloat(nan)}, api.OK},
		{api.Cmd{Kind: api.CAdd, Name: "t", Val: vInt(1)}, api.ErrKind},
		{api.Cmd{Kind: api.CAdd, Name: "t"}, api.ErrKind},
		{api.Cmd{Kind: api.CAdd, Name: "t", Val: long}, api.ErrLong},
		{api.Cmd{Kind: api.CAdd, Name: "t", Val: vFloat(nan + 1)}, api.ErrArg},
		{api.Cmd{Kind: api.CMake, Name: "q", N: api.OQueue, M: 8}, api.OK},
		{api.Cmd{Kind: api.CMake, Name: "q", N: api.OQueue, M: 9}, api.ErrArg},
		{api.Cmd{Kind: api.CMake, Name: "q", N: api.OQueue}, api.ErrArg},
		{api.Cmd{Kind: api.CMake, Name: "g", N: api.OGate, M: 5}, api.OK},
		{api.Cmd{Kind: api.CMake, Name: "g", N: api.OGate, M: 6}, api.ErrArg},
		{api.Cmd{Kind: api.CMake, Name: "g", N: api.OGate}, api.ErrArg},
		{api.Cmd{Kind: api.CMake, Name: "m", N: api.OMap}, api.OK},
		{api.Cmd{Kind: api.CMake, Name: "m", N: api.OMap, M: 1}, api.ErrArg},
		{api.Cmd{Kind: api.CMake, Name: "l", N: api.OLock, M: 1}, api.ErrArg},
		{api.Cmd{Kind: api.CMake, Name: "t", N: api.OMeter, M: 1}, api.ErrArg},
		{api.Cmd{Kind: api.CMake, Name: "m"}, api.ErrArg},
		{api.Cmd{Kind: api.CMake, Name: "m", N: 6}, api.ErrArg},
		{api.Cmd{Kind: api.CMake, Name: name17, N: api.OQueue, M: 9}, api.ErrLong},
		{api.Cmd{Kind: api.CMake, Name: name17[1:], N: api.OMap}, api.OK},
		{api.Cmd{Kind: api.CMake, N: api.OMap}, api.ErrArg},
		{api.Cmd{Kind: api.CRead, Name: "t", N: 3}, api.OK},
		{api.Cmd{Kind: api.CRead, Name: "t", N: 4}, api.ErrArg},
		{api.Cmd{Kind: api.CRead, Name: "t", N: -1}, api.ErrArg},
		{api.Cmd{Kind: api.CRead, Name: "t", M: 1}, api.ErrArg},
		{api.Cmd{Kind: api.CSize, Name: "t", Key: key65}, api.ErrArg},
	}
	for _, k := range known {
		if got := cmd.Check(k.c); got != k.e {
			t.Errorf("Check(%s) = %d, not %d", short(k.c), got, k.e)
		}
	}
}

func TestCheckOfAny(t *testing.T) {
	for _, c := range all() {
		if got, want := cmd.Check(c), may(c); got != want {
			t.Fatalf("Check(%s) = %d, not %d", short(c), got, want)
		}
	}
}

func TestCheckOfGood(t *testing.T) {
	for _, c := range good() {
		if got := cmd.Check(c); got != api.OK {
			t.Errorf("Check(%s) = %d", short(c), got)
		}
	}
}

// TestCheckOfMore puts what a kind doesn't name beside what it names.
func TestCheckOfMore(t *testing.T) {
	for _, c := range good() {
		for _, more := range []api.Cmd{{Name: "m"}, {Key: "a"}, {Val: vInt(0)}, {Val: api.Value{N: 1}}, {Old: vInt(0)}, {Old: api.Value{S: "a"}}, {N: -1}, {M: 1}} {
			d := c
			d.Name, d.Key = d.Name+more.Name, d.Key+more.Key
			if more.Val != (api.Value{}) {
				d.Val = more.Val
			}
			if more.Old != (api.Value{}) {
				d.Old = more.Old
			}
			d.N, d.M = d.N+more.N, d.M+more.M
			if got, want := cmd.Check(d), may(d); got != want {
				t.Fatalf("Check(%s) = %d, not %d", short(d), got, want)
			}
		}
	}
}

func TestRight(t *testing.T) {
	for _, client := range numbers() {
		for _, epoch := range numbers() {
			for _, req := range numbers() {
				want := slices.Contains([]int{0, 1, 2, 3, 4}, client) && epoch > 0 && req > -1
				if got := cmd.Right(ref(client, epoch, req)); got != want {
					t.Errorf("Right(%d.%d.%d) = %t", client, epoch, req, got)
				}
			}
		}
	}
}

func TestRightKnown(t *testing.T) {
	for _, r := range []api.Ref{ref(0, 1, 0), ref(4, 1, 0), ref(2, math.MaxInt, math.MaxInt)} {
		if !cmd.Right(r) {
			t.Errorf("Right(%v) = false", r)
		}
	}
	for _, r := range []api.Ref{{}, ref(5, 1, 0), ref(-1, 1, 0), ref(0, 0, 0), ref(0, -1, 1), ref(0, 1, -1)} {
		if cmd.Right(r) {
			t.Errorf("Right(%v) = true", r)
		}
	}
}

func TestFitsKnown(t *testing.T) {
	get := api.Cmd{Kind: api.CGet, Name: "m", Key: "a"}
	known := []struct {
		e    api.Event
		want bool
	}{
		{api.Event{Ref: ref(0, 1, 0), Cmd: api.Cmd{Kind: api.COpen}}, true},
		{api.Event{Ref: ref(0, 1, 1), Cmd: api.Cmd{Kind: api.COpen}}, false},
		{api.Event{Ref: ref(0, 1, 0), Cmd: api.Cmd{Kind: api.CExpire}}, true},
		{api.Event{Ref: ref(0, 1, 1), Cmd: api.Cmd{Kind: api.CExpire}}, false},
		{api.Event{Ref: ref(0, 1, 0), Cmd: api.Cmd{Kind: api.CClose}}, false},
		{api.Event{Ref: ref(0, 1, 1), Cmd: api.Cmd{Kind: api.CClose}}, true},
		{api.Event{Ref: ref(0, 1, 0), Cmd: api.Cmd{Kind: api.CTouch}}, false},
		{api.Event{Ref: ref(0, 1, 7), Cmd: api.Cmd{Kind: api.CTouch}}, true},
		{api.Event{Ref: ref(0, 1, 0), Cmd: get}, false},
		{api.Event{Ref: ref(4, 9, math.MaxInt), Cmd: get}, true},
		{api.Event{Ref: ref(5, 1, 1), Cmd: get}, false},
		{api.Event{Ref: ref(0, 0, 1), Cmd: get}, false},
		{api.Event{Ref: ref(0, 1, -1), Cmd: get}, false},
		{api.Event{Ref: ref(0, 1, 1), Cmd: api.Cmd{Kind: api.CGet}}, false},
		{api.Event{}, false},
	}
	for _, k := range known {
		if got := cmd.Fits(k.e); got != k.want {
			t.Errorf("Fits(%v) = %t", k.e, got)
		}
	}
}

// fits is Fits by what the chapter's words say.
func fits(e api.Event) bool {
	if !cmd.Right(e.Ref) || may(e.Cmd) != api.OK {
		return false
	}
	switch e.Cmd.Kind {
	case api.COpen, api.CExpire:
		return e.Ref.Req == 0
	}
	return e.Ref.Req != 0
}

func TestFitsOfAny(t *testing.T) {
	refs := []api.Ref{ref(0, 1, 0), ref(0, 1, 1), ref(4, 1, 2), ref(5, 1, 1), ref(-1, 1, 0), ref(0, 0, 1), ref(0, 1, -1), ref(0, 1, math.MinInt)}
	own := good()
	for i, c := range slices.Concat(own, all()) {
		for j, r := range refs {
			if i >= len(own) && (i+j)%5 != 0 {
				continue
			}
			e := api.Event{Ref: r, Cmd: c}
			if got, want := cmd.Fits(e), fits(e); got != want {
				t.Fatalf("Fits(%s) = %t", short(e), got)
			}
		}
	}
}

// P9.2

// items are e's, by what the chapter's words say.
func items(e api.Event) []api.Item {
	l := row(number(e.Ref.Client), number(e.Ref.Epoch), number(e.Ref.Req), number(e.Cmd.Kind), text(e.Cmd.Name), text(e.Cmd.Key))
	l = append(l, value.Items(e.Cmd.Val)...)
	l = append(l, value.Items(e.Cmd.Old)...)
	return append(l, number(e.Cmd.N), number(e.Cmd.M))
}

// list are l's, by what the chapter's words say.
func list(l []api.Event) []api.Item {
	all := row(number(len(l)))
	for _, e := range l {
		all = append(all, items(e)...)
	}
	return all
}

// events are such as may be, one of each good command.
func events() []api.Event {
	l := []api.Event{}
	for _, c := range good() {
		l = append(l, event(c))
	}
	far := event(api.Cmd{Kind: api.CTouch})
	far.Ref = ref(4, math.MaxInt, math.MaxInt)
	return append(l, far)
}

// raw are events that hold anything.
func raw() []api.Event {
	l := []api.Event{{}}
	for _, n := range numbers() {
		for _, v := range append(values(), api.Value{Kind: n, N: 1, F: 1, S: "a"}) {
			l = append(l, api.Event{
				Ref: ref(n, -n, n+1),
				Cmd: api.Cmd{Kind: -n, Name: strings.Repeat("n", len(v.S)), Key: v.S, Val: v, Old: vInt(n), N: n, M: n - 1},
			})
			l = append(l, api.Event{Cmd: api.Cmd{Kind: n, Old: v}})
		}
	}
	return l
}

func TestItemsKnown(t *testing.T) {
	known := []struct {
		e api.Event
		l []api.Item
	}{
		{api.Event{}, row(number(0), number(0), number(0), number(0), text(""), text(""), number(0), number(0), number(0), number(0))},
		{
			api.Event{Ref: ref(1, 2, 3), Cmd: api.Cmd{Kind: api.CPut, Name: "m", Key: "a", Val: vText("ab")}},
			row(number(1), number(2), number(3), number(7), text("m"), text("a"), number(3), text("ab"), number(0), number(0), number(0)),
		},
		{
			api.Event{Ref: ref(4, 1, 9), Cmd: api.Cmd{Kind: api.CSwap, Name: "m", Key: "a", Val: vInt(8), Old: vFloat(one)}},
			row(number(4), number(1), number(9), number(9), text("m"), text("a"), number(1), number(8), number(2), number(int(one)), number(0), number(0)),
		},
		{
			api.Event{Ref: ref(0, 1, 1), Cmd: api.Cmd{Kind: api.CMake, Name: "q", N: 2, M: 5}},
			row(number(0), number(1), number(1), number(4), text("q"), text(""), number(0), number(0), number(2), number(5)),
		},
		{
			api.Event{Ref: ref(-1, -2, -3), Cmd: api.Cmd{Kind: 99, Val: api.Value{Kind: 7, N: 1, F: 2, S: "a"}, Old: api.Value{N: 1}, N: -4, M: -5}},
			row(number(-1), number(-2), number(-3), number(99), text(""), text(""), number(7), number(0), number(-4), number(-5)),
		},
	}
	for _, k := range known {
		if got := cmd.Items(k.e); !slices.Equal(got, k.l) {
			t.Errorf("Items(%v) = %v, not %v", k.e, got, k.l)
		}
	}
}

func TestItemsOfAny(t *testing.T) {
	for _, e := range append(raw(), events()...) {
		got := cmd.Items(e)
		if !slices.Equal(got, items(e)) {
			t.Fatalf("Items(%s) = %s", short(e), short(got))
		}
		for i := range got[:cap(got)] {
			got[:cap(got)][i] = text("other")
		}
		if !slices.Equal(cmd.Items(e), items(e)) {
			t.Fatalf("Items(%s) is another one, after its last answer was changed", short(e))
		}
	}
}

func TestListOfAny(t *testing.T) {
	l := append(raw(), events()...)
	for _, part := range [][]api.Event{nil, {}, l[:1], l[:2], l[5:21], l[5:22], l} {
		if got := cmd.List(part); !slices.Equal(got, list(part)) {
			t.Errorf("List of %d events is %s", len(part), short(got))
		}
	}
}

func TestListLeavesEvents(t *testing.T) {
	whole := append(slices.Clone(events()[:3]), api.Event{Ref: ref(9, 9, 9)})
	l := slices.Clone(whole)
	got := cmd.List(l[:3])
	for i := range got[:cap(got)] {
		got[:cap(got)][i] = text("other")
	}
	if !slices.Equal(l, whole) || !slices.Equal(cmd.List(l[:3]), list(whole[:3])) {
		t.Error("List changes what it is given, or keeps what it answered")
	}
}

// stands asks that just this event stand in l from at on.
func stands(t *testing.T, l []api.Item, at int, want api.Event) {
	t.Helper()
	before := slices.Clone(l)
	got, end, is := cmd.From(l, at)
	if got != want || end != at+len(items(want)) || !is {
		t.Fatalf("From(%s, %d) = %s, %d, %t", short(l), at, short(got), end, is)
	}
	if !slices.Equal(l, before) {
		t.Fatalf("From changed %s", short(before))
	}
}

// none asks that no event stand in l from at on.
func none(t *testing.T, l []api.Item, at int) {
	t.Helper()
	if got, end, is := cmd.From(l, at); got != (api.Event{}) || end != 0 || is {
		t.Fatalf("From(%s, %d) = %s, %d, %t", short(l), at, short(got), end, is)
	}
}

func TestFromAmongOthers(t *testing.T) {
	others := row(text("a"), api.Item{Kind: 9, N: 9, S: "z"}, number(1), number(0))
	for _, e := range events() {
		for ahead := range len(others) + 1 {
			for behind := range len(others) + 1 {
				stands(t, slices.Concat(others[:ahead], items(e), others[:behind]), ahead, e)
			}
		}
	}
}

func TestFromInARow(t *testing.T) {
	l := row()
	for _, e := range events() {
		l = append(l, items(e)...)
	}
	at := 0
	for _, e := range events() {
		stands(t, l, at, e)
		_, at, _ = cmd.From(l, at)
	}
	if at != len(l) {
		t.Errorf("%d of %d items were read", at, len(l))
	}
	none(t, l, at)
}

func TestFromOutside(t *testing.T) {
	l := items(event(api.Cmd{Kind: api.CTouch}))
	for _, at := range []int{math.MinInt, math.MinInt + 1, -11, -10, -6, -1, 1, 4, 5, 8, 9, 10, 11, math.MaxInt - 7, math.MaxInt - 1, math.MaxInt} {
		none(t, l, at)
		none(t, nil, at)
	}
	none(t, nil, 0)
	none(t, row(), 0)
}

// TestFromCut: what lies behind the list's end, in its spare room, isn't in it.
func TestFromCut(t *testing.T) {
	for _, e := range events() {
		l := items(e)
		for n := range len(l) {
			none(t, l[:n], 0)
			none(t, slices.Clone(l[:n]), 0)
			none(t, append(row(text("a"), number(0)), l[:n]...), 2)
		}
	}
}

// TestFromOfWrongItems puts what is another item in each place.
func TestFromOfWrongItems(t *testing.T) {
	for _, e := range events() {
		for at, right := range items(e) {
			l := items(e)
			for _, x := range row(
				api.Item{Kind: 2, N: right.N, S: right.S}, api.Item{Kind: -1, N: right.N, S: right.S}, api.Item{Kind: math.MaxInt, N: right.N, S: right.S},
				api.Item{Kind: 1 - right.Kind, N: right.N, S: right.S}, api.Item{Kind: api.IInt, N: right.N, S: right.S + "a"}, api.Item{Kind: api.IText, N: right.N + 1, S: right.S},
			) {
				l[at] = x
				none(t, l, 0)
			}
		}
	}
}

// TestFromOfOtherItems puts other numbers and texts in each place: what is read
// may be, and its items are those that were read.
func TestFromOfOtherItems(t *testing.T) {
	others := row(text(""), text("m"), text(strings.Repeat("n", 16)), text(strings.Repeat("n", 17)), text(strings.Repeat("k", 64)), text(strings.Repeat("k", 65)),
		number(int(nan)), number(int(nan+1)), number(10), number(16), number(18), number(19))
	for _, n := range numbers() {
		others = append(others, number(n))
	}
	read := 0
	for _, e := range events() {
		for at := range items(e) {
			for _, x := range others {
				l := append(items(e), number(0), number(0))
				l[at] = x
				got, end, is := cmd.From(l, 0)
				if !is {
					none(t, l, 0)
					continue
				}
				read++
				if !fits(got) || !slices.Equal(items(got), l[:end]) {
					t.Fatalf("From(%s, 0) = %s, %d, true", short(l), short(got), end)
				}
			}
		}
	}
	if read < 1000 {
		t.Errorf("just %d events were read", read)
	}
}

// sameFrom asks that e stand in its own items, just if it may be. (What may not
// be can have the items of one that may: what its values don't name is lost.)
func sameFrom(t *testing.T, e api.Event) {
	t.Helper()
	l := items(e)
	if fits(e) {
		stands(t, l, 0, e)
		return
	}
	if got, end, is := cmd.From(l, 0); is && (!fits(got) || end != len(l) || !slices.Equal(items(got), l)) {
		t.Fatalf("From(%s, 0) = %s, %d, true", short(l), short(got), end)
	}
	if value.Check(e.Cmd.Val) == api.OK && value.Check(e.Cmd.Old) == api.OK {
		none(t, l, 0)
	}
}

func TestFromOfAny(t *testing.T) {
	for _, e := range raw() {
		sameFrom(t, e)
	}
	for i, c := range all() {
		if i%3 == 0 {
			sameFrom(t, event(c))
		}
	}
	for _, e := range events() {
		for _, n := range numbers() {
			for _, r := range []api.Ref{ref(n, 1, 1), ref(n, 1, 0), ref(1, n, 1), ref(1, n, 0), ref(1, 1, n)} {
				sameFrom(t, api.Event{Ref: r, Cmd: e.Cmd})
			}
		}
	}
}

// TestFromOfAnyItems reads items at will: what is read has just those items.
func TestFromOfAnyItems(t *testing.T) {
	r := rand.New(rand.NewSource(9))
	for range 100000 {
		l := row()
		for range r.Intn(16) {
			l = append(l, []api.Item{number(r.Intn(4)), number(r.Intn(20)), text(""), text("m")}[r.Intn(4)])
		}
		at := r.Intn(18) - 1
		got, end, is := cmd.From(l, at)
		if !is {
			none(t, l, at)
		} else if !fits(got) || !slices.Equal(items(got), l[at:end]) {
			t.Fatalf("From(%s, %d) = %s, %d, true", short(l), at, short(got), end)
		}
	}
}

// follow asks that just these events stand in l from at on, and that they be in
// new memory.
func follow(t *testing.T, l []api.Item, at int, want []api.Event) {
	t.Helper()
	before := slices.Clone(l)
	got, end, is := cmd.Events(l, at)
	if !slices.Equal(got, want) || end != at+len(list(want)) || !is {
		t.Fatalf("Events(%s, %d) = %s, %d, %t", short(l), at, short(got), end, is)
	}
	for i := range got[:cap(got)] {
		got[:cap(got)][i] = api.Event{Ref: ref(9, 9, 9)}
	}
	if again, _, _ := cmd.Events(l, at); !slices.Equal(again, want) || !slices.Equal(l, before) {
		t.Fatalf("Events(%s, %d) keeps what it answered, or changes what it was given", short(before), at)
	}
}

// noEvents asks that no events stand in l from at on.
func noEvents(t *testing.T, l []api.Item, at int) {
	t.Helper()
	if got, end, is := cmd.Events(l, at); len(got) != 0 || end != 0 || is {
		t.Fatalf("Events(%s, %d) = %s, %d, %t", short(l), at, short(got), end, is)
	}
}

// rows are rows of events that may be, of all lengths up to MaxRoom, and the one
// of those that the room is too small for.
func rows() (within [][]api.Event, beyond []api.Event) {
	l := slices.Concat(events(), events())
	for n := range 17 {
		for at := 0; at < len(events()); at += 11 {
			within = append(within, l[at:at+n])
		}
	}
	return within, l[:17]
}

func TestEventsAmongOthers(t *testing.T) {
	others := row(text("a"), api.Item{Kind: 9, N: 9, S: "z"}, number(1))
	within, _ := rows()
	for _, want := range within {
		for ahead := range len(others) + 1 {
			for behind := range len(others) + 1 {
				follow(t, slices.Concat(others[:ahead], list(want), others[:behind]), ahead, want)
			}
		}
	}
}

func TestEventsOfTooMany(t *testing.T) {
	_, beyond := rows()
	follow(t, list(beyond[:16]), 0, beyond[:16])
	noEvents(t, list(beyond), 0)
	noEvents(t, list(slices.Concat(beyond, beyond)), 0)
	noEvents(t, list(slices.Repeat(beyond, 1<<10)), 0)
}

func TestEventsOfWrongCounts(t *testing.T) {
	_, beyond := rows()
	for _, n := range append(numbers(), 15, 16, 17, 18, 1<<31, 1<<32+2, -1<<32, -1<<63+2) {
		for _, size := range []int{0, 1, 2, 16, 17} {
			l := list(beyond[:size])
			l[0] = number(n)
			if 0 <= n && n <= min(size, 16) {
				follow(t, l, 0, beyond[:n])
				continue
			}
			noEvents(t, l, 0)
		}
	}
	for _, x := range row(text(""), text("a"), api.Item{Kind: api.IText, N: 2}, api.Item{Kind: 2, N: 2}, api.Item{Kind: -1, N: 2}, api.Item{N: 2, S: "a"}) {
		l := list(beyond[:2])
		l[0] = x
		noEvents(t, l, 0)
	}
	for _, x := range row(text(""), api.Item{Kind: api.IText}, api.Item{Kind: 2}, api.Item{Kind: api.IInt, S: "\x00"}) {
		noEvents(t, row(x), 0)
	}
}

func TestEventsOutside(t *testing.T) {
	l := list(events()[:2])
	for _, at := range []int{math.MinInt, math.MinInt + 1, -3, -2, -1, len(l), len(l) + 1, math.MaxInt - 1, math.MaxInt} {
		noEvents(t, l, at)
		noEvents(t, nil, at)
	}
	noEvents(t, nil, 0)
	noEvents(t, row(), 0)
	// The last number is M, which is 0: no events, but events all the same.
	follow(t, l, len(l)-1, nil)
}

func TestEventsCut(t *testing.T) {
	within, _ := rows()
	for _, want := range within {
		l := list(want)
		for n := range len(l) {
			noEvents(t, l[:n], 0)
		}
	}
}

// TestEventsOfOneThatMayNotBe puts one that may not be, or none at all, in each
// place of a row.
func TestEventsOfOneThatMayNotBe(t *testing.T) {
	within, _ := rows()
	wrong := []api.Event{
		{}, {Ref: ref(0, 1, 1), Cmd: api.Cmd{Kind: api.COpen}}, {Ref: ref(5, 1, 1), Cmd: api.Cmd{Kind: api.CTouch}},
		{Ref: ref(0, 1, 1), Cmd: api.Cmd{Kind: 19}}, {Ref: ref(0, 1, 1), Cmd: api.Cmd{Kind: api.CPut, Name: "m", Key: "a"}},
	}
	for _, l := range within {
		for at := range l {
			for _, e := range wrong {
				m := slices.Clone(l)
				m[at] = e
				noEvents(t, list(m), 0)
			}
		}
	}
	l := list(events()[:3])
	for i := range l[1:] {
		m := slices.Clone(l)
		m[1+i].Kind = 2
		noEvents(t, m, 0)
	}
}

// P9.3

func TestThereAndBack(t *testing.T) {
	for _, e := range events() {
		stands(t, cmd.Items(e), 0, e)
	}
	within, beyond := rows()
	for _, l := range within {
		follow(t, cmd.List(l), 0, l)
	}
	noEvents(t, cmd.List(beyond), 0)
}

// TestThereAndBackAsBytes goes by way of layer 3, as all that is told does.
func TestThereAndBackAsBytes(t *testing.T) {
	within, _ := rows()
	for _, l := range within {
		s, e := wire.Encode(cmd.List(l))
		read, err := wire.Decode(s)
		if e != api.OK || err != api.OK {
			t.Fatalf("%s: %d, %d", short(l), e, err)
		}
		follow(t, read, 0, l)
	}
}

func ExampleCheck() {
	put := api.Cmd{Kind: api.CPut, Name: "m", Key: "a", Val: api.Value{Kind: api.VInt, N: 1}}
	bare, more := put, put
	bare.Val, more.N = api.Value{}, 1
	fmt.Println(cmd.Check(put), cmd.Check(bare), cmd.Check(more))
	// Output: 0 1 1
}

func ExampleFits() {
	open := api.Cmd{Kind: api.COpen}
	fmt.Println(cmd.Fits(api.Event{Ref: ref(0, 1, 0), Cmd: open}), cmd.Fits(api.Event{Ref: ref(0, 1, 1), Cmd: open}))
	// Output: true false
}
