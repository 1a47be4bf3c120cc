package ident_test

import (
	"fmt"
	"math"
	"math/rand"
	"slices"
	"testing"

	"phalanx/api"
	"phalanx/ident"
)

func id(slot, inc int) api.Id      { return api.Id{Slot: slot, Inc: inc} }
func ids(l ...api.Id) []api.Id     { return l }
func number(n int) api.Item        { return api.Item{Kind: api.IInt, N: n} }
func text(s string) api.Item       { return api.Item{Kind: api.IText, S: s} }
func row(l ...api.Item) []api.Item { return l }

// ends are the numbers at which something changes, and those far off.
func ends() []int {
	return []int{math.MinInt, math.MinInt + 1, -256, -7, -1, 0, 1, 2, 5, 6, 7, 8, 255, 256, 257, math.MaxInt - 1, math.MaxInt}
}

// raw are nodes that hold anything.
func raw() []api.Id {
	l := ids()
	for _, slot := range ends() {
		for _, inc := range ends() {
			l = append(l, id(slot, inc))
		}
	}
	return l
}

// lists are all lists of at most so many of these nodes, each in all places.
func lists(of []api.Id, most int) [][]api.Id {
	all := [][]api.Id{nil}
	last := all
	for range most {
		longer := [][]api.Id{}
		for _, l := range last {
			for _, x := range of {
				longer = append(longer, append(slices.Clone(l), x))
			}
		}
		all = append(all, longer...)
		last = longer
	}
	return all
}

// few are nodes such that in lists of them starts of one slot meet, and some that
// aren't right.
func few() []api.Id {
	return ids(id(0, 1), id(2, 1), id(2, 2), id(6, 1), id(3, 0), id(7, 1), id(-1, 3))
}

// rising are all rising lists of the first three starts of each of some slots.
func rising(slots ...int) [][]api.Id {
	all := [][]api.Id{nil}
	for _, slot := range slots {
		for _, l := range slices.Clone(all) {
			for inc := range 3 {
				all = append(all, append(slices.Clone(l), id(slot, inc+1)))
			}
		}
	}
	return all
}

// anyLists are lists at will, always the same ones: of few nodes, but long.
func anyLists(count int) [][]api.Id {
	r := rand.New(rand.NewSource(6))
	all := [][]api.Id{}
	for range count {
		l := ids()
		for range r.Intn(12) {
			l = append(l, id(r.Intn(10)-1, r.Intn(4)))
		}
		all = append(all, l)
	}
	return all
}

// roomy gives l with spare room behind it, that holds x.
func roomy(l []api.Id, x api.Id) []api.Id {
	return append(slices.Clone(l), x, x, x)[:len(l)]
}

// P6.1

func TestRightKnown(t *testing.T) {
	known := []struct {
		x    api.Id
		want bool
	}{
		{id(0, 1), true}, {id(6, 1), true}, {id(3, 2), true}, {id(0, math.MaxInt), true}, {id(6, math.MaxInt), true},
		{id(7, 1), false}, {id(-1, 1), false}, {id(0, 0), false}, {id(6, 0), false}, {id(0, -1), false},
		{id(7, 0), false}, {id(math.MinInt, 1), false}, {id(math.MaxInt, 1), false}, {id(0, math.MinInt), false},
		{id(256, 1), false}, {id(1<<32, 1), false}, {id(1, 1<<32), true}, {api.Id{}, false},
	}
	for _, k := range known {
		if got := ident.Right(k.x); got != k.want {
			t.Errorf("Right(%v) = %t", k.x, got)
		}
	}
}

func TestRightOfAny(t *testing.T) {
	for _, x := range raw() {
		slot := slices.Contains([]int{0, 1, 2, 3, 4, 5, 6}, x.Slot)
		if got, want := ident.Right(x), slot && x.Inc > 0; got != want {
			t.Errorf("Right(%v) = %t", x, got)
		}
	}
}

func TestRisesKnown(t *testing.T) {
	known := []struct {
		l    []api.Id
		want bool
	}{
		{nil, true},
		{ids(), true},
		{ids(id(0, 1)), true},
		{ids(id(6, math.MaxInt)), true},
		{ids(id(0, 1), id(1, 1)), true},
		{ids(id(0, 9), id(5, 1), id(6, 4)), true},
		{ids(id(0, 1), id(1, 1), id(2, 1), id(3, 1), id(4, 1), id(5, 1), id(6, 1)), true},
		{ids(id(0, 1), id(0, 1)), false},
		{ids(id(0, 1), id(0, 2)), false},
		{ids(id(1, 1), id(0, 1)), false},
		{ids(id(1, 1), id(0, 2)), false},
		{ids(id(0, 1), id(2, 1), id(1, 1)), false},
		{ids(id(0, 1), id(2, 1), id(2, 2)), false},
		{ids(id(3, 1), id(0, 1), id(6, 1)), false},
		{ids(id(0, 0)), false},
		{ids(id(7, 1)), false},
		{ids(id(-1, 1)), false},
		{ids(id(0, 1), id(1, 0), id(2, 1)), false},
		{ids(id(-1, 1), id(0, 1)), false},
		{ids(id(0, 1), id(1, 1), id(2, 1), id(3, 1), id(4, 1), id(5, 1), id(6, 1), id(7, 1)), false},
		{ids(id(0, 1), id(math.MaxInt, 1)), false},
	}
	for _, k := range known {
		if got := ident.Rises(k.l); got != k.want {
			t.Errorf("Rises(%v) = %t", k.l, got)
		}
	}
}

// rises holds each node of l against all ahead of it.
func rises(l []api.Id) bool {
	for i, x := range l {
		if x.Slot < 0 || x.Slot > 6 || x.Inc < 1 {
			return false
		}
		for _, y := range l[:i] {
			if y.Slot >= x.Slot {
				return false
			}
		}
	}
	return true
}

func TestRisesOfAny(t *testing.T) {
	for _, l := range slices.Concat(lists(few(), 4), anyLists(3000)) {
		if got, want := ident.Rises(l), rises(l); got != want {
			t.Fatalf("Rises(%v) = %t", l, got)
		}
	}
	for _, l := range rising(0, 1, 2, 3, 4, 5, 6) {
		if !ident.Rises(l) {
			t.Fatalf("Rises(%v) = false", l)
		}
	}
}

func TestHasKnown(t *testing.T) {
	l := ids(id(0, 1), id(9, -4), id(2, 1), id(2, 1))
	for _, x := range l {
		if !ident.Has(l, x) {
			t.Errorf("Has(%v, %v) = false", l, x)
		}
	}
	for _, x := range ids(id(0, 2), id(0, 0), id(1, 1), id(1, 0), id(9, 4), id(-9, -4), id(2, 2), id(-4, 9), api.Id{}) {
		if ident.Has(l, x) || ident.Has(nil, x) {
			t.Errorf("Has(%v, %v) = true, or of no list", l, x)
		}
	}
	if ident.Has(roomy(ids(id(0, 1)), id(1, 1)), id(1, 1)) {
		t.Error("a list has what stands in its spare room")
	}
}

func TestHasOfAny(t *testing.T) {
	for _, l := range lists(few(), 4) {
		for _, x := range few() {
			want := 0
			for _, y := range l {
				if y.Slot == x.Slot && y.Inc == x.Inc {
					want++
				}
			}
			if got := ident.Has(l, x); got != (want > 0) {
				t.Fatalf("Has(%v, %v) = %t", l, x, got)
			}
		}
	}
}

func TestSlotKnown(t *testing.T) {
	l := ids(id(4, 2), id(0, 1), id(4, 3), id(-1, 5), id(7, 0), id(math.MinInt, 9))
	known := []struct {
		slot int
		x    api.Id
		is   bool
	}{
		{4, id(4, 2), true}, {0, id(0, 1), true}, {-1, id(-1, 5), true}, {7, id(7, 0), true}, {math.MinInt, id(math.MinInt, 9), true},
		{1, api.Id{}, false}, {6, api.Id{}, false}, {8, api.Id{}, false}, {-2, api.Id{}, false}, {math.MaxInt, api.Id{}, false},
	}
	for _, k := range known {
		if x, is := ident.Slot(l, k.slot); x != k.x || is != k.is {
			t.Errorf("Slot(%v, %d) = %v, %t", l, k.slot, x, is)
		}
		if x, is := ident.Slot(nil, k.slot); x != (api.Id{}) || is {
			t.Errorf("Slot(nothing, %d) = %v, %t", k.slot, x, is)
		}
	}
}

func TestSlotOfAny(t *testing.T) {
	for _, l := range lists(few(), 4) {
		for slot := -2; slot < 9; slot++ {
			want, is := api.Id{}, false
			for _, x := range slices.Backward(l) {
				if x.Slot == slot {
					want, is = x, true
				}
			}
			if x, got := ident.Slot(l, slot); x != want || got != is {
				t.Fatalf("Slot(%v, %d) = %v, %t", l, slot, x, got)
			}
		}
	}
}

// P6.2

func TestBothKnown(t *testing.T) {
	known := []struct{ a, b, want []api.Id }{
		{nil, nil, nil},
		{ids(id(0, 1)), nil, nil},
		{nil, ids(id(0, 1)), nil},
		{ids(id(0, 1), id(1, 1), id(2, 1)), ids(id(2, 1), id(0, 1)), ids(id(0, 1), id(2, 1))},
		{ids(id(2, 1), id(0, 1)), ids(id(0, 1), id(1, 1), id(2, 1)), ids(id(2, 1), id(0, 1))},
		{ids(id(0, 1), id(1, 1)), ids(id(0, 2), id(1, 1)), ids(id(1, 1))},
		{ids(id(0, 1), id(1, 1), id(0, 1)), ids(id(0, 1)), ids(id(0, 1), id(0, 1))},
		{ids(id(0, 1)), ids(id(0, 1), id(0, 1)), ids(id(0, 1))},
		{ids(id(9, -9), api.Id{}), ids(api.Id{}, id(9, -9)), ids(id(9, -9), api.Id{})},
	}
	for _, k := range known {
		if got := ident.Both(k.a, k.b); !slices.Equal(got, k.want) {
			t.Errorf("Both(%v, %v) = %v, not %v", k.a, k.b, got, k.want)
		}
	}
}

func TestBothOfAny(t *testing.T) {
	all := append(lists(few()[:4], 3), anyLists(60)...)
	for _, a := range all {
		for _, b := range all {
			want := slices.DeleteFunc(slices.Clone(a), func(x api.Id) bool { return !slices.Contains(b, x) })
			if got := ident.Both(a, b); !slices.Equal(got, want) {
				t.Fatalf("Both(%v, %v) = %v, not %v", a, b, got, want)
			}
		}
	}
}

func TestWithKnown(t *testing.T) {
	known := []struct {
		l    []api.Id
		x    api.Id
		want []api.Id
	}{
		{ids(id(0, 1), id(2, 1)), id(1, 1), ids(id(0, 1), id(1, 1), id(2, 1))},
		{ids(id(0, 1), id(2, 1)), id(2, 3), ids(id(0, 1), id(2, 3))},
		{ids(id(0, 1), id(2, 1)), id(2, 1), ids(id(0, 1), id(2, 1))},
		{ids(id(0, 1), id(2, 4)), id(2, 3), ids(id(0, 1), id(2, 3))},
		{ids(id(0, 1), id(2, 1)), id(0, 2), ids(id(0, 2), id(2, 1))},
		{ids(id(0, 1), id(2, 1)), id(6, 1), ids(id(0, 1), id(2, 1), id(6, 1))},
		{ids(id(1, 1), id(2, 1)), id(0, 1), ids(id(0, 1), id(1, 1), id(2, 1))},
		{nil, id(4, 1), ids(id(4, 1))},
		{ids(), id(9, -1), ids(id(9, -1))},
		// Lists that don't rise: x stands where the first node of l stood whose
		// slot is not below x's, be it of x's slot too.
		{ids(id(2, 1), id(0, 1), id(2, 2)), id(2, 3), ids(id(2, 3), id(0, 1))},
		{ids(id(2, 1), id(0, 1), id(1, 1)), id(2, 3), ids(id(2, 3), id(0, 1), id(1, 1))},
		{ids(id(5, 1), id(2, 1), id(3, 1)), id(3, 2), ids(id(3, 2), id(5, 1), id(2, 1))},
		{ids(id(0, 1), id(3, 1), id(1, 1), id(5, 1)), id(3, 2), ids(id(0, 1), id(3, 2), id(1, 1), id(5, 1))},
		{ids(id(0, 1), id(0, 1), id(-3, 0)), id(1, 0), ids(id(0, 1), id(0, 1), id(-3, 0), id(1, 0))},
		{ids(id(7, 1), id(7, 2)), id(7, 0), ids(id(7, 0))},
		{ids(id(0, 1)), id(math.MinInt, 1), ids(id(math.MinInt, 1), id(0, 1))},
		{ids(id(0, 1)), id(math.MaxInt, 1), ids(id(0, 1), id(math.MaxInt, 1))},
	}
	for _, k := range known {
		if got := ident.With(k.l, k.x); !slices.Equal(got, k.want) {
			t.Errorf("With(%v, %v) = %v, not %v", k.l, k.x, got, k.want)
		}
	}
}

// with is With by the chapter's words: x is put in ahead of that node of l, and
// then the other nodes of its slot are left out.
func with(l []api.Id, x api.Id) []api.Id {
	at := slices.IndexFunc(l, func(y api.Id) bool { return y.Slot >= x.Slot })
	if at < 0 {
		at = len(l)
	}
	other := func(l []api.Id) []api.Id {
		return slices.DeleteFunc(slices.Clone(l), func(y api.Id) bool { return y.Slot == x.Slot })
	}
	return slices.Concat(other(l[:at]), ids(x), other(l[at:]))
}

func TestWithOfAny(t *testing.T) {
	for _, l := range slices.Concat(lists(few(), 4), anyLists(2000)) {
		for _, x := range append(few(), id(1, 1), id(4, 0), id(math.MinInt, 1), id(math.MaxInt, 1)) {
			if got, want := ident.With(l, x), with(l, x); !slices.Equal(got, want) {
				t.Fatalf("With(%v, %v) = %v, not %v", l, x, got, want)
			}
		}
	}
}

// TestListsAreNewMemory: what is handed in stays as it is, its spare room too,
// whatever is done with the answers.
func TestListsAreNewMemory(t *testing.T) {
	mark := id(5, 5)
	for _, whole := range lists(few(), 3) {
		l := roomy(whole, mark)
		answers := [][]api.Id{ident.Both(l, l), ident.Both(l, nil), ident.With(l, id(6, 9)), ident.With(l, id(-5, 9)), ident.With(l, id(9, 9))}
		ident.Major(l, l)
		ident.Items(l)
		for _, a := range answers {
			a = append(a, id(8, 8))
			for i := range a {
				a[i] = id(8, 8)
			}
			full := a[:cap(a)]
			for i := range full {
				full[i] = id(8, 8)
			}
		}
		if !slices.Equal(l[:len(l)+3], append(slices.Clone(whole), mark, mark, mark)) {
			t.Fatalf("%v was changed to %v", whole, l[:len(l)+3])
		}
	}
}

// P6.3

func TestMost(t *testing.T) {
	known := map[int]int{
		0: 1, 1: 1, 2: 2, 3: 2, 4: 3, 5: 3, 6: 4, 7: 4, 8: 5, 100: 51, 101: 51,
		math.MaxInt: 1 << 62, math.MaxInt - 1: 1 << 62, math.MaxInt - 2: 1<<62 - 1,
		// Below 0 the language halves towards 0.
		-1: 1, -2: 0, -3: 0, -4: -1, -5: -1, math.MinInt: -1<<62 + 1, math.MinInt + 1: -1<<62 + 2,
	}
	for n, want := range known {
		if got := ident.Most(n); got != want {
			t.Errorf("Most(%d) = %d, not %d", n, got, want)
		}
	}
}

func TestMostIsTheLeastAboveHalf(t *testing.T) {
	for n := range 1000 {
		most := ident.Most(n)
		if 2*most <= n || 2*(most-1) > n {
			t.Errorf("Most(%d) = %d", n, most)
		}
	}
}

func TestMajorKnown(t *testing.T) {
	three := ids(id(0, 1), id(1, 1), id(2, 1))
	four := append(slices.Clone(three), id(3, 1))
	known := []struct {
		part, whole []api.Id
		want        bool
	}{
		{ids(id(0, 1), id(1, 1)), three, true},
		{ids(id(1, 1), id(0, 1)), three, true},
		{ids(id(0, 1), id(2, 2)), three, false},
		{ids(id(0, 1)), three, false},
		{three, three, true},
		{four, three, true},
		{nil, three, false},
		{three, nil, false},
		{nil, nil, false},
		{ids(id(0, 1), id(1, 1)), four, false},
		{three, four, true},
		{ids(id(0, 1)), ids(id(0, 1)), true},
		{ids(id(0, 1)), ids(id(0, 1), id(1, 1)), false},
		// Another start is another node; a node counts once for each of its places
		// in the whole, not for those in the part.
		{ids(id(0, 2), id(1, 2), id(2, 2), id(3, 1)), three, false},
		{ids(id(0, 1), id(0, 1), id(0, 1)), three, false},
		{ids(id(0, 1), id(0, 1), id(5, 1), id(6, 1)), three, false},
		{ids(id(0, 1)), ids(id(0, 1), id(0, 1), id(1, 1)), true},
		{ids(id(9, -9)), ids(id(9, -9)), true},
	}
	for _, k := range known {
		if got := ident.Major(k.part, k.whole); got != k.want {
			t.Errorf("Major(%v, %v) = %t", k.part, k.whole, got)
		}
	}
}

func TestMajorOfAny(t *testing.T) {
	all := append(lists(few()[:4], 4), anyLists(60)...)
	for _, part := range all {
		for _, whole := range all {
			has := 0
			for _, x := range whole {
				if slices.Contains(part, x) {
					has++
				}
			}
			if got := ident.Major(part, whole); got != (2*has > len(whole)) {
				t.Fatalf("Major(%v, %v) = %t", part, whole, got)
			}
		}
	}
}

// P6.4

// items are l's, by what the chapter's words say.
func items(l []api.Id) []api.Item {
	all := make([]api.Item, 1+2*len(l))
	all[0].N = len(l)
	for i, x := range l {
		all[1+2*i].N, all[2+2*i].N = x.Slot, x.Inc
	}
	return all
}

func TestItemsKnown(t *testing.T) {
	known := []struct {
		l    []api.Id
		want []api.Item
	}{
		{nil, row(number(0))},
		{ids(), row(number(0))},
		{ids(id(0, 1)), row(number(1), number(0), number(1))},
		{ids(id(6, 5), id(0, 3)), row(number(2), number(6), number(5), number(0), number(3))},
		{ids(id(-1, math.MinInt), id(-1, math.MinInt)), row(number(2), number(-1), number(math.MinInt), number(-1), number(math.MinInt))},
	}
	for _, k := range known {
		if got := ident.Items(k.l); !slices.Equal(got, k.want) {
			t.Errorf("Items(%v) = %v, not %v", k.l, got, k.want)
		}
	}
}

func TestItemsOfAny(t *testing.T) {
	for _, l := range slices.Concat(lists(few(), 4), anyLists(1000), [][]api.Id{raw()}) {
		if got, want := ident.Items(l), items(l); !slices.Equal(got, want) {
			t.Fatalf("Items(%v) = %v, not %v", l, got, want)
		}
	}
}

// stands asks that just this list stand in l from at on, and that it be new.
func stands(t *testing.T, l []api.Item, at int, want []api.Id) {
	t.Helper()
	before := slices.Clone(l)
	got, end, is := ident.From(l, at)
	if !is || end != at+1+2*len(want) || !slices.Equal(got, want) {
		t.Fatalf("From(%v, %d) = %v, %d, %t, not %v", l, at, got, end, is, want)
	}
	for i := range got[:cap(got)] {
		got[:cap(got)][i] = id(8, 8)
	}
	if again, _, _ := ident.From(l, at); !slices.Equal(again, want) || !slices.Equal(l, before) {
		t.Fatalf("From(%v, %d) keeps what it answered, or changes what it was given", before, at)
	}
}

// none asks that no list stand in l from at on.
func none(t *testing.T, l []api.Item, at int) {
	t.Helper()
	if got, end, is := ident.From(l, at); len(got) != 0 || end != 0 || is {
		t.Fatalf("From(%v, %d) = %v, %d, %t", l, at, got, end, is)
	}
}

func TestFromAmongOthers(t *testing.T) {
	others := row(text("a"), api.Item{Kind: 9, N: 9, S: "z"}, number(1))
	for _, want := range rising(0, 3, 5, 6) {
		for ahead := range len(others) + 1 {
			for behind := range len(others) + 1 {
				stands(t, slices.Concat(others[:ahead], items(want), others[:behind]), ahead, want)
			}
		}
	}
}

func TestFromInARow(t *testing.T) {
	l := row()
	for _, want := range rising(1, 2, 6) {
		l = append(l, items(want)...)
	}
	at := 0
	for _, want := range rising(1, 2, 6) {
		stands(t, l, at, want)
		_, at, _ = ident.From(l, at)
	}
	if at != len(l) {
		t.Errorf("%d of %d items were read", at, len(l))
	}
	none(t, l, at)
}

func TestFromOutside(t *testing.T) {
	l := row(number(1), number(0), number(1))
	for _, at := range []int{math.MinInt, math.MinInt + 1, -3, -2, -1, 3, 4, 5, math.MaxInt - 1, math.MaxInt} {
		none(t, l, at)
		none(t, nil, at)
	}
	none(t, nil, 0)
	none(t, row(), 0)
	stands(t, l, 1, nil)
	// What lies behind the list's end, in its spare room, isn't in it.
	none(t, l[:2], 0)
	none(t, l[:1], 0)
	none(t, l[:0], 0)
}

func TestFromCut(t *testing.T) {
	for _, whole := range rising(0, 2, 4, 6) {
		l := items(whole)
		for n := range len(l) {
			none(t, l[:n], 0)
			none(t, slices.Clone(l[:n]), 0)
		}
	}
}

func TestFromOfManyNodes(t *testing.T) {
	seven := ids(id(0, 1), id(1, 1), id(2, 1), id(3, math.MaxInt), id(4, 1), id(5, 1), id(6, 1))
	stands(t, items(seven), 0, seven)
	none(t, items(append(slices.Clone(seven), id(7, 1))), 0)
	none(t, items(append(slices.Clone(seven), id(6, 2))), 0)
	none(t, items(append(ids(id(0, 1)), seven...)), 0)
	none(t, items(make([]api.Id, 1<<20)), 0)
}

func TestFromOfWrongCounts(t *testing.T) {
	for _, n := range append(ends(), 3, 4, 1<<61, 1<<62, 1<<62+1, 1<<63-2, -1<<62, -1<<62+1, 1<<31, 1<<32, 1<<32+2) {
		for _, whole := range [][]api.Id{nil, ids(id(0, 1)), ids(id(0, 1), id(1, 1), id(2, 1), id(3, 1), id(4, 1), id(5, 1), id(6, 1), id(7, 1))} {
			l := items(whole)
			l[0] = number(n)
			if 0 <= n && n <= min(len(whole), 7) {
				stands(t, l, 0, whole[:n])
				continue
			}
			none(t, l, 0)
		}
	}
}

// TestFromOfWrongItems puts what is no number in each place of a list.
func TestFromOfWrongItems(t *testing.T) {
	whole := ids(id(0, 1), id(1, 1), id(2, 1))
	for at := range items(whole) {
		l := items(whole)
		n := l[at].N
		for _, x := range row(text(""), text("a"), api.Item{Kind: api.IText, N: n}, api.Item{Kind: 2, N: n}, api.Item{Kind: -1, N: n},
			api.Item{Kind: math.MaxInt, N: n}, api.Item{Kind: api.IInt, N: n, S: "a"}, api.Item{Kind: api.IInt, N: n, S: "\x00"}) {
			l[at] = x
			none(t, l, 0)
		}
	}
}

// TestFromOfWrongNodes puts each number in each place of a list's nodes.
func TestFromOfWrongNodes(t *testing.T) {
	whole := ids(id(1, 1), id(3, 2), id(6, 1))
	for i := range whole {
		for _, n := range append(ends(), 3, 4) {
			l := slices.Clone(whole)
			l[i].Slot = n
			sameFrom(t, l)
			l = slices.Clone(whole)
			l[i].Inc = n
			sameFrom(t, l)
		}
	}
}

// sameFrom asks that l stand in its own items, just if it rises.
func sameFrom(t *testing.T, l []api.Id) {
	t.Helper()
	if rises(l) {
		stands(t, items(l), 0, l)
		return
	}
	none(t, items(l), 0)
}

func TestFromOfAny(t *testing.T) {
	for _, l := range slices.Concat(lists(few(), 4), anyLists(3000)) {
		sameFrom(t, l)
	}
}

// P6.5

func TestMajoritiesMeet(t *testing.T) {
	for size := range 6 {
		whole := ids()
		for slot := range size {
			whole = append(whole, id(slot, 2))
		}
		majors := [][]api.Id{}
		for _, part := range rising(0, 1, 2, 3, 4) {
			if ident.Major(part, whole) {
				majors = append(majors, part)
			}
		}
		for _, a := range majors {
			for _, b := range majors {
				if len(ident.Both(a, b)) == 0 {
					t.Fatalf("%v and %v are both a strict majority of %v", a, b, whole)
				}
			}
		}
	}
}

func TestWithRises(t *testing.T) {
	for _, l := range rising(0, 1, 2, 3, 4, 5, 6) {
		for slot := range 7 {
			x := id(slot, 2)
			got := ident.With(l, x)
			if !ident.Rises(got) || !ident.Has(got, x) {
				t.Fatalf("With(%v, %v) = %v", l, x, got)
			}
			for _, y := range l {
				if y.Slot != slot && !ident.Has(got, y) {
					t.Fatalf("With(%v, %v) = %v, without %v", l, x, got, y)
				}
			}
		}
	}
}

func TestThereAndBack(t *testing.T) {
	for _, l := range rising(0, 1, 2, 3, 4, 5, 6) {
		stands(t, ident.Items(l), 0, l)
	}
}

func ExampleRight() {
	fmt.Println(ident.Right(id(6, 1)), ident.Right(id(7, 1)), ident.Right(id(6, 0)))
	// Output: true false false
}

func ExampleMost() {
	fmt.Println(ident.Most(1), ident.Most(2), ident.Most(5))
	// Output: 1 2 3
}

func ExampleWith() {
	l := ids(id(0, 1), id(2, 1))
	fmt.Println(ident.With(l, id(1, 1)), ident.With(l, id(2, 3)), ident.With(nil, id(4, 1)))
	// Output: [{0 1} {1 1} {2 1}] [{0 1} {2 3}] [{4 1}]
}

func ExampleMajor() {
	whole := ids(id(0, 1), id(1, 1), id(2, 1))
	fmt.Println(ident.Major(whole[:2], whole), ident.Major(ids(id(0, 1), id(2, 2)), whole))
	// Output: true false
}
