package watch_test

import (
	"fmt"
	"math"
	"slices"
	"testing"

	"phalanx/api"
	"phalanx/watch"
	"phalanx/wire"
)

// P22.1

func TestRightKnown(t *testing.T) {
	for _, b := range good() {
		if !watch.Right(b) || !right(b) {
			t.Errorf("Right(%s) = false", short(b))
		}
	}
	for _, b := range wrong() {
		if watch.Right(b) || right(b) {
			t.Errorf("Right(%s) = true", short(b))
		}
	}
}

// TestRightOfAny takes beats of all fields; many of them may be.
func TestRightOfAny(t *testing.T) {
	modes := map[int]int{}
	for _, b := range raw() {
		is := watch.Right(b)
		if is != right(b) {
			t.Fatalf("Right(%s) = %t", short(b), is)
		}
		if is {
			modes[b.Mode]++
		}
	}
	for mode := range 3 {
		if modes[mode] < 12 {
			t.Errorf("only %d beats of the mode %d may be", modes[mode], mode)
		}
	}
}

// TestRightLeavesMembers: what is handed in stays, and what stands in its spare room
// doesn't count.
func TestRightLeavesMembers(t *testing.T) {
	for _, b := range append(good(), wrong()...) {
		c := roomyBeat(b)
		if watch.Right(c) != right(b) || !stays(c.Members, b.Members) {
			t.Fatalf("Right(%s) hangs on spare room, or changes what it is given", short(b))
		}
	}
	x := id(2, 1)
	if b := member(x, 1, 1, 0, id(0, 1), x); watch.Right(api.Beat{Id: x, Clock: 1, Mode: api.Member, N: 1, Members: b.Members[:1]}) {
		t.Error("a member stands among Members by their spare room")
	}
}

// P22.2

// hears holds Hear against what it should answer; asks it to leave what it is given
// as it is, spare room too; and to keep none of it, nor to hand out memory of it, or
// one memory twice.
func hears(t *testing.T, k known, b api.Beat, now int) (known, bool) {
	t.Helper()
	given, beat := roomyKnown(k), roomyBeat(b)
	want, wantIs := hear(k, b, now)
	got, is := watch.Hear(given, beat, now)
	if !alike(got, want) || is != wantIs {
		t.Fatalf("Hear(%s; %s, %d) = %s, %t, not %s, %t", short(k), short(b), now, short(got), is, short(want), wantIs)
	}
	for i, p := range given {
		if p.Heard != k[i].Heard || !like(p.Beat, k[i].Beat) || !stays(p.Beat.Members, k[i].Beat.Members) {
			t.Fatalf("Hear(%s; %s) changes what is known", short(k), short(b))
		}
	}
	if !stays(beat.Members, b.Members) {
		t.Fatalf("Hear(%s; %s) changes the beat", short(k), short(b))
	}
	spoil(beat.Members)
	for i := range given {
		spoil(given[i].Beat.Members)
	}
	if !alike(got, want) {
		t.Fatalf("Hear(%s; %s) keeps what it is given", short(k), short(b))
	}
	return got, is
}

// ownEach asks that no two lists of the answer share memory, nor one with k or b.
func ownEach(t *testing.T, k known, b api.Beat) {
	t.Helper()
	want, _ := hear(k, b, 3)
	want = roomyKnown(want)
	kept, beat := roomyKnown(k), roomyBeat(b)
	for i := range k {
		got, _ := watch.Hear(k, b, 3)
		spoil(got[i].Beat.Members)
		got[i] = want[i]
		if !alike(got, want) || !alike(k, kept) || !like(b, beat) {
			t.Fatalf("Hear(%s; %s) hands out memory that somebody has", short(k), short(b))
		}
	}
}

func TestHearKnown(t *testing.T) {
	five := hearAll(joining(id(1, 1), 5))
	for _, x := range []struct {
		what string
		k    known
		b    api.Beat
		is   bool
	}{
		{"the first one", known{}, joining(id(1, 1), 5), true},
		{"a first one of a later start", known{}, joining(id(1, 9), 1), true},
		{"one that may not be", known{}, joining(id(1, 1), 0), false},
		{"one of no slot", known{}, joining(id(7, 1), 1), false},
		{"one of another no slot", known{}, joining(id(-1, 1), 1), false},
		{"one of no start", known{}, joining(id(1, 0), 1), false},
		{"the same one", five, joining(id(1, 1), 5), false},
		{"the same clock, and more", five, member(id(1, 1), 5, 1, 0, id(1, 1)), false},
		{"an earlier clock", five, joining(id(1, 1), 4), false},
		{"a later clock", five, joining(id(1, 1), 6), true},
		{"a far later clock", five, joining(id(1, 1), math.MaxInt), true},
		{"a later clock, one that may not be", five, blocked(joining(id(1, 1), 6)), false},
		{"a later start", five, joining(id(1, 2), 1), true},
		{"a later start, the same clock", five, joining(id(1, 2), 5), true},
		{"a far later start", five, joining(id(1, math.MaxInt), 1), true},
		{"a later start, one that may not be", five, joining(id(1, 2), 0), false},
		{"another slot", five, joining(id(2, 1), 4), true},
		{"an earlier start", hearAll(joining(id(1, 3), 1)), joining(id(1, 2), 9), false},
		{"the last start and clock", hearAll(joining(id(1, math.MaxInt), math.MaxInt)), joining(id(1, math.MaxInt), math.MaxInt), false},
		{"a member that goes", hearAll(member(id(1, 1), 5, 1, 0, id(1, 1))), gone(id(1, 1), 6, 1, 0, id(1, 1)), true},
		{"fewer events at a later clock", hearAll(member(id(1, 1), 5, 2, 9, id(1, 1))), member(id(1, 1), 6, 1, 3, id(1, 1)), true},
	} {
		got, is := hears(t, x.k, x.b, 7)
		if is != x.is {
			t.Errorf("%s: Hear = %t", x.what, is)
		}
		if is && (got[x.b.Id.Slot].Heard != 7 || !like(got[x.b.Id.Slot].Beat, x.b)) {
			t.Errorf("%s: Hear = %s", x.what, short(got))
		}
		if !is && !alike(got, x.k) {
			t.Errorf("%s: Hear changes %s to %s", x.what, short(x.k), short(got))
		}
	}
}

// hearAll is what is known when those beats were heard, at 1, 2, and so on.
func hearAll(l ...api.Beat) known {
	k := known{}
	for i, b := range l {
		k, _ = watch.Hear(k, b, i+1)
	}
	return k
}

// TestHearOfAny takes all beats to all tables, at any time.
func TestHearOfAny(t *testing.T) {
	times := []int{0, 1, -1, math.MaxInt, math.MinInt, 1 << 61, 1<<32 + 1}
	for _, k := range tables() {
		for i, b := range append(good(), wrong()...) {
			hears(t, k, b, times[i%len(times)])
			ownEach(t, k, b)
		}
	}
}

// TestHearOfEach takes starts and clocks about those that are known, and any that
// stand in a table.
func TestHearOfEach(t *testing.T) {
	numbers := []int{math.MinInt, -1, 0, 1, 2, 3, 1 << 32, math.MaxInt - 1, math.MaxInt}
	for _, inc := range numbers {
		for _, clock := range numbers {
			k := known{}
			k[4] = api.Peer{Heard: 9, Beat: api.Beat{Id: id(4, inc), Clock: clock}}
			for _, newInc := range numbers {
				for _, newClock := range numbers {
					hears(t, k, joining(id(4, newInc), newClock), 3)
					hears(t, k, member(id(4, newInc), newClock, 1, 0, id(4, newInc)), 3)
				}
			}
		}
	}
}

// P22.3

func TestLateKnown(t *testing.T) {
	ten := known{}
	ten[1] = api.Peer{Heard: 10, Beat: joining(id(1, 2), 1)}
	for _, x := range []struct {
		what                 string
		k                    known
		x                    api.Id
		now, since, patience int
		want                 bool
	}{
		{"no slot", ten, id(7, 2), 10, 10, 5, true},
		{"no slot, below", ten, id(-1, 2), 10, 10, 5, true},
		{"no slot, far off", ten, id(math.MaxInt, 2), 10, 10, math.MaxInt, true},
		{"no slot, far below", ten, id(math.MinInt, math.MaxInt), 10, 10, math.MaxInt, true},
		{"no slot, of all bits", ten, id(1<<32+1, 2), 10, 10, 5, true},
		{"an elder start", ten, id(1, 1), 10, 10, 5, true},
		{"an elder start, any patience", ten, id(1, 1), 10, 10, math.MaxInt, true},
		{"heard", ten, id(1, 2), 12, 3, 3, false},
		{"heard, and patience is over", ten, id(1, 2), 13, 3, 3, true},
		{"heard, and patience is long over", ten, id(1, 2), 1000, 3, 3, true},
		{"heard ahead of since", ten, id(1, 2), 14, 12, 3, false},
		{"heard ahead of since, and patience is over", ten, id(1, 2), 15, 12, 3, true},
		{"heard at since", ten, id(1, 2), 12, 10, 3, false},
		{"heard at since, and patience is over", ten, id(1, 2), 13, 10, 3, true},
		{"a later start than was heard", ten, id(1, 3), 5, 3, 3, false},
		{"a later start than was heard, and patience is over", ten, id(1, 3), 6, 3, 3, true},
		{"another slot", ten, id(2, 2), 5, 3, 3, false},
		{"another slot, and patience is over", ten, id(2, 2), 6, 3, 3, true},
		{"nothing heard", known{}, id(6, 1), 2, 0, 3, false},
		{"nothing heard, and patience is over", known{}, id(6, 1), 3, 0, 3, true},
		{"nothing heard, ahead of 0", known{}, id(6, 1), -2, -4, 3, false},
		{"nothing heard, patience over ahead of 0", known{}, id(6, 1), -1, -4, 3, true},
		{"no patience", ten, id(1, 2), 10, 3, 0, true},
		{"no patience, but heard later", ten, id(1, 2), 9, 3, 0, false},
		{"less than no patience", ten, id(1, 2), 9, 3, -1, true},
		{"the least patience", ten, id(1, 2), 0, 3, math.MinInt, true},
		{"the most patience", ten, id(1, 2), 1 << 61, 3, math.MaxInt, false},
		{"since is yet to come", ten, id(1, 2), 11, 20, 3, false},
		{"since is just so far off", ten, id(1, 2), 11, 20, -9, true},
		{"from end to end", known{}, id(0, 1), 1 << 61, -1 << 61, 1 << 62, true},
		{"from end to end, one more", known{}, id(0, 1), 1 << 61, -1 << 61, 1<<62 + 1, false},
		{"and back", known{}, id(0, 1), -1 << 61, 1 << 61, -1 << 62, true},
		{"and back, one more", known{}, id(0, 1), -1 << 61, 1 << 61, -1<<62 + 1, false},
	} {
		if got := watch.Late(x.k, x.x, x.now, x.since, x.patience); got != x.want {
			t.Errorf("%s: Late = %t", x.what, got)
		}
	}
}

// lates holds Late against what it should answer, and asks it to leave what it is
// given as it is.
func lates(t *testing.T, k known, x api.Id, now, since, patience int) {
	t.Helper()
	given := roomyKnown(k)
	if got := watch.Late(given, x, now, since, patience); got != late(k, x, now, since, patience) {
		t.Fatalf("Late(%s; %v, %d, %d, %d) = %t", short(k), x, now, since, patience, got)
	}
	for i, p := range given {
		if !like(p.Beat, k[i].Beat) || !stays(p.Beat.Members, k[i].Beat.Members) {
			t.Fatalf("Late changes %s", short(k))
		}
	}
}

// TestLateOfAny takes all nodes near those that are known, in all tables.
func TestLateOfAny(t *testing.T) {
	for _, k := range tables() {
		for slot := -1; slot < 8; slot++ {
			for _, inc := range []int{math.MinInt, -1, 0, 1, 2, 3, 4, math.MaxInt - 1, math.MaxInt} {
				for _, now := range []int{-1 << 61, -1, 0, 9, 12, 1 << 61} {
					for _, since := range []int{-1 << 61, -3, 0, 8, 1 << 61} {
						for _, patience := range []int{math.MinInt, -1, 0, 1, 3, 1 << 62, math.MaxInt} {
							lates(t, k, id(slot, inc), now, since, patience)
						}
					}
				}
			}
		}
	}
}

// TestLateOfEach takes all times about one another, and both ways in which x can be
// heard or not; what others have said doesn't count.
func TestLateOfEach(t *testing.T) {
	x := id(3, 2)
	for heard := -5; heard < 6; heard++ {
		for _, last := range []api.Id{id(3, 1), x, id(3, 3), {}} {
			k := known{}
			for slot := range k {
				k[slot] = api.Peer{Heard: 5, Beat: joining(id(slot, 9), 1)}
			}
			k[3] = api.Peer{Heard: heard, Beat: joining(last, 4)}
			for now := -5; now < 9; now++ {
				for since := -5; since < 6; since++ {
					for patience := -2; patience < 8; patience++ {
						lates(t, k, x, now, since, patience)
					}
				}
			}
		}
	}
}

// TestLateOfAnyMode: all that is said but Id leaves it as it is.
func TestLateOfAnyMode(t *testing.T) {
	for _, b := range append(good(), wrong()...) {
		k := known{}
		if b.Id.Slot < 0 || b.Id.Slot > 6 || b.Id.Inc < 1 {
			continue
		}
		k[b.Id.Slot] = api.Peer{Heard: 4, Beat: b}
		for now := range 9 {
			if got := watch.Late(k, b.Id, now, 1, 3); got != (now >= 7) {
				t.Fatalf("Late of %s, heard at 4, at %d = %t", short(b), now, got)
			}
		}
	}
}

// P22.4

func TestItemsKnown(t *testing.T) {
	three := blocked(member(id(2, 3), 9, 4, 7, id(0, 1), id(2, 3)))
	for _, x := range []struct {
		b    api.Beat
		want []int
	}{
		{api.Beat{}, []int{0, 0, 0, 0, 0, 0, 0, 0, 0}},
		{joining(id(1, 2), 3), []int{1, 2, 3, 0, 0, 0, 0, 0, 0}},
		{three, []int{2, 3, 9, 1, 1, 1, 4, 7, 2, 0, 1, 2, 3}},
		{bare(three), []int{2, 3, 9, 1, 0, 1, 4, 7, 2, 0, 1, 2, 3}},
		{gone(id(6, 1), 8, 5, 4, id(1, 1)), []int{6, 1, 8, 2, 0, 0, 5, 4, 1, 1, 1}},
		{api.Beat{Id: id(-1, math.MinInt), Clock: -2, Mode: 77, Ready: true, N: -3, Have: math.MaxInt, Members: ids(id(9, -9))}, []int{-1, math.MinInt, -2, 77, 1, 0, -3, math.MaxInt, 1, 9, -9}},
	} {
		want := []api.Item{}
		for _, n := range x.want {
			want = append(want, number(n))
		}
		if got := watch.Items(x.b); !slices.Equal(got, want) {
			t.Errorf("Items(%s) = %v, not %v", short(x.b), got, want)
		}
	}
}

// TestItemsOfAny: whatever a beat is, it has items; what is given stays.
func TestItemsOfAny(t *testing.T) {
	for _, b := range slices.Concat(good(), wrong(), raw(), []api.Beat{{Members: make([]api.Id, 70000)}}) {
		given := roomyBeat(b)
		if got := watch.Items(given); !slices.Equal(got, items(b)) || !stays(given.Members, b.Members) {
			t.Fatalf("Items(%s) = %s", short(b), short(got))
		}
	}
}

// stands asks that l be this beat's items, and what is answered be new.
func stands(t *testing.T, l []api.Item, want api.Beat) {
	t.Helper()
	before := slices.Clone(l)
	got, is := watch.From(l)
	if !is || !like(got, want) {
		t.Fatalf("From(%s) = %s, %t, not %s", short(l), short(got), is, short(want))
	}
	spoil(got.Members)
	if again, _ := watch.From(l); !like(again, want) || !slices.Equal(l, before) {
		t.Fatalf("From(%s) keeps what it answered, or changes what it was given", short(before))
	}
}

// none asks that l be no beat's items.
func none(t *testing.T, l []api.Item) {
	t.Helper()
	if got, is := watch.From(l); is || !zero(got) {
		t.Fatalf("From(%s) = %s, %t", short(l), short(got), is)
	}
}

// holds asks that l be what the words say.
func holds(t *testing.T, l []api.Item) {
	t.Helper()
	if b, is := from(l); is {
		stands(t, l, b)
		return
	}
	none(t, l)
}

// TestFromOfAny: the items of each beat that may be are it, on the wire too; those of
// any other one are none.
func TestFromOfAny(t *testing.T) {
	for _, b := range good() {
		stands(t, watch.Items(b), b)
		s, e := wire.Encode(watch.Items(b))
		l, f := wire.Decode(s)
		if e != api.OK || f != api.OK {
			t.Fatalf("%s goes over no wire: %d, %d", short(b), e, f)
		}
		stands(t, l, b)
	}
	for _, b := range wrong() {
		none(t, watch.Items(b))
	}
	for _, b := range raw() {
		holds(t, watch.Items(b))
	}
}

// TestFromCut: no fewer items are a beat, and no more.
func TestFromCut(t *testing.T) {
	for _, b := range good() {
		l := watch.Items(b)
		for n := range len(l) {
			none(t, l[:n])
			none(t, slices.Clone(l[:n]))
			none(t, l[n+1:])
			none(t, slices.Delete(slices.Clone(l), n, n+1))
		}
		for _, x := range []api.Item{number(0), number(1), text(""), {Kind: 7}} {
			none(t, append(slices.Clone(l), x))
			none(t, append([]api.Item{x}, l...))
		}
		none(t, append(slices.Clone(l), l...))
		none(t, append(slices.Clone(l), number(5), number(1)))
	}
	none(t, nil)
	none(t, make([]api.Item, 9))
	none(t, make([]api.Item, 1<<20))
	none(t, watch.Items(member(id(0, 1), 1, 1, 0, append(ids(id(0, 1)), make([]api.Id, 1<<16)...)...)))
}

// TestFromOfWrongItems puts what is no number, or not only that, in each place.
func TestFromOfWrongItems(t *testing.T) {
	for _, b := range good() {
		for at := range watch.Items(b) {
			l := watch.Items(b)
			n := l[at].N
			for _, x := range []api.Item{
				text(""), text("a"), {Kind: api.IText, N: n}, {Kind: 2, N: n}, {Kind: -1, N: n}, {Kind: math.MaxInt, N: n},
				{Kind: api.IInt, N: n, S: "a"}, {Kind: api.IInt, N: n, S: "\x00"},
			} {
				l[at] = x
				none(t, l)
			}
		}
	}
}

// TestFromOfWrongNumbers puts each number in each place: some are another beat.
func TestFromOfWrongNumbers(t *testing.T) {
	numbers := []int{math.MinInt, math.MinInt + 1, -1 << 32, -256, -2, -1, 0, 1, 2, 3, 4, 5, 6, 7, 8, 9, 255, 256, 257, 1 << 32, 1<<32 + 1, 1 << 61, 1 << 62, 1<<62 + 1, math.MaxInt - 1, math.MaxInt}
	for _, b := range good() {
		for at := range watch.Items(b) {
			l := watch.Items(b)
			for _, n := range numbers {
				l[at] = number(n)
				holds(t, l)
			}
		}
	}
}

// TestFromOfFlags: a flag is 0 or 1, and no other number.
func TestFromOfFlags(t *testing.T) {
	b := member(id(2, 1), 4, 3, 2, id(2, 1))
	for _, at := range []int{4, 5} {
		for _, n := range []int{-1, 2, 3, 256, 257, 1 << 32, 1<<32 + 1, math.MinInt, math.MaxInt} {
			l := watch.Items(b)
			l[at] = number(n)
			none(t, l)
		}
	}
}

// TestItemsAreNew: no two answers share memory.
func TestItemsAreNew(t *testing.T) {
	for _, b := range good() {
		l := watch.Items(b)
		all := l[:cap(l)]
		for i := range all {
			all[i] = text("spoilt")
		}
		if got := watch.Items(b); !slices.Equal(got, items(b)) {
			t.Fatalf("Items(%s) are what somebody made of them: %s", short(b), short(got))
		}
	}
}

func Example() {
	var k [api.MaxNodes]api.Peer
	told := []bool{}
	for i, b := range []api.Beat{joining(id(1, 1), 5), joining(id(1, 1), 4), joining(id(1, 2), 1), joining(id(1, 1), 9)} {
		is := false
		k, is = watch.Hear(k, b, 8+i)
		told = append(told, is)
	}
	fmt.Println(told)
	fmt.Println(watch.Late(k, id(1, 1), 12, 3, 3), watch.Late(k, id(1, 2), 12, 3, 3), watch.Late(k, id(1, 2), 13, 3, 3))
	fmt.Println(watch.Right(member(id(0, 1), 1, 1, 0)), watch.Right(api.Beat{Id: id(0, 1), Clock: 1, N: 1}))
	// Output:
	// [true false true false]
	// true false true
	// false false
}
