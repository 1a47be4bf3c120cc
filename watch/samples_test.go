package watch_test

import (
	"math"
	"slices"

	"phalanx/api"
)

func id(slot, inc int) api.Id  { return api.Id{Slot: slot, Inc: inc} }
func ids(l ...api.Id) []api.Id { return l }
func number(n int) api.Item    { return api.Item{Kind: api.IInt, N: n} }
func text(s string) api.Item   { return api.Item{Kind: api.IText, S: s} }

// joining, member and gone are beats that may be, if their numbers may.
func joining(x api.Id, clock int) api.Beat { return api.Beat{Id: x, Clock: clock} }

func member(x api.Id, clock, n, have int, members ...api.Id) api.Beat {
	return api.Beat{Id: x, Clock: clock, Mode: api.Member, Ready: true, N: n, Have: have, Members: members}
}

func gone(x api.Id, clock, n, have int, members ...api.Id) api.Beat {
	return api.Beat{Id: x, Clock: clock, Mode: api.Gone, N: n, Have: have, Members: members}
}

// bare and blocked are a member that isn't Ready, and one that has promised a view.
func bare(b api.Beat) api.Beat {
	b.Ready = false
	return b
}

func blocked(b api.Beat) api.Beat {
	b.Blocked = true
	return b
}

// all are the first starts of all slots.
func all() []api.Id {
	l := ids()
	for slot := range 7 {
		l = append(l, id(slot, 1))
	}
	return l
}

// good are beats that may be.
func good() []api.Beat {
	far, three := math.MaxInt, ids(id(0, 1), id(2, 3), id(6, 2))
	l := []api.Beat{
		joining(id(0, 1), 1), joining(id(6, 1), 1), joining(id(3, far), far), joining(id(1, 1<<32), 1<<32),
		member(id(0, 1), 1, 1, 0, id(0, 1)), member(id(6, far), far, far, far, id(6, far)), member(id(6, 2), 9, 4, 7, three...),
		bare(member(id(2, 3), 9, 4, 7, three...)), blocked(member(id(0, 1), 9, 4, 7, three...)), bare(blocked(member(id(0, 1), 9, 4, 7, three...))),
		gone(id(0, 1), 1, 1, 0), gone(id(5, 2), 8, 2, 3, three...), gone(id(2, 3), 8, 2, 3, three...), gone(id(2, 2), 8, far, far, three...),
		gone(id(4, 1), far, 1, 0, all()...),
	}
	for slot := range 7 {
		l = append(l, member(id(slot, 1), 3, 1, slot, all()...), member(id(slot, 1), 3, 2, 0, all()[:slot+1]...), joining(id(slot, slot+1), 5))
	}
	return l
}

// wrong are beats that may not be, off in one thing or in more.
func wrong() []api.Beat {
	l := []api.Beat{{}}
	for _, b := range good() {
		for _, spoilt := range []func(*api.Beat){
			func(b *api.Beat) { b.Id.Slot = 7 },
			func(b *api.Beat) { b.Id.Slot = -1 },
			func(b *api.Beat) { b.Id.Slot = math.MinInt },
			func(b *api.Beat) { b.Id.Slot = 1 << 32 },
			func(b *api.Beat) { b.Id.Inc = 0 },
			func(b *api.Beat) { b.Id.Inc = -1 },
			func(b *api.Beat) { b.Clock = 0 },
			func(b *api.Beat) { b.Clock = -1 },
			func(b *api.Beat) { b.Clock = math.MinInt },
			func(b *api.Beat) { b.Mode = 3 },
			func(b *api.Beat) { b.Mode = -1 },
			func(b *api.Beat) { b.Mode = 1<<32 + 1 },
			func(b *api.Beat) { b.N = -1 },
			func(b *api.Beat) { b.N = math.MinInt },
			func(b *api.Beat) { b.Have = -1 },
			func(b *api.Beat) { b.Have = math.MinInt },
			func(b *api.Beat) { b.Members = append(slices.Clone(b.Members), id(7, 1)) },
			func(b *api.Beat) { b.Members = append(slices.Clone(b.Members), b.Id, b.Id) },
			func(b *api.Beat) { b.Members = append(ids(id(3, 0)), b.Members...) },
		} {
			c := b
			spoilt(&c)
			l = append(l, c)
		}
	}
	return append(l, wrongByMode()...)
}

// wrongByMode are beats whose mode rules them out.
func wrongByMode() []api.Beat {
	x, y := id(2, 2), id(4, 1)
	l := []api.Beat{}
	for _, spoilt := range []func(*api.Beat){
		func(b *api.Beat) { b.Ready = true },
		func(b *api.Beat) { b.Blocked = true },
		func(b *api.Beat) { b.N = 1 },
		func(b *api.Beat) { b.Have = 1 },
		func(b *api.Beat) { b.Members = ids(x) },
		func(b *api.Beat) { b.Members = ids(y) },
	} {
		b := joining(x, 3)
		spoilt(&b)
		l = append(l, b)
	}
	return append(l,
		member(x, 3, 0, 0, x), member(x, 3, 1, 0), member(x, 3, 1, 0, y), member(x, 3, 1, 0, id(2, 1)), member(x, 3, 1, 0, id(2, 3), y), member(x, 3, 1, 0, y, x),
		bare(member(x, 3, 0, 0, x)), blocked(member(x, 3, 1, 0, y)), bare(member(x, 3, 1, 0)), member(x, 3, 1, 0, all()...),
		gone(x, 3, 0, 0), gone(x, 3, 0, 4, x), blocked(gone(x, 3, 1, 0)), blocked(gone(x, 3, 1, 0, x)), gone(x, 3, 1, 0, y, x),
		api.Beat{Id: x, Clock: 3, Mode: api.Gone, Ready: true, N: 1}, api.Beat{Id: x, Clock: 3, Mode: api.Gone, Ready: true, N: 1, Members: ids(x)},
	)
}

// lists are members that stand beside x: such as rise and such as don't.
func lists(x api.Id) [][]api.Id {
	other := id((x.Slot%7+8)%7, 1)
	pair := ids(x, other)
	if other.Slot < x.Slot {
		pair = ids(other, x)
	}
	return [][]api.Id{nil, {}, {x}, {other}, pair, {pair[1], pair[0]}, {x, x}, {id(x.Slot, x.Inc-1)}, {id(0, 0)}, all(), append(all(), id(7, 1))}
}

// raw are beats of all fields, near all bounds.
func raw() []api.Beat {
	l := []api.Beat{}
	for _, slot := range []int{math.MinInt, -1, 0, 3, 6, 7} {
		for _, inc := range []int{math.MinInt, 0, 1, 2, math.MaxInt} {
			for _, clock := range []int{-1, 0, 1, math.MaxInt} {
				for mode := -1; mode < 4; mode++ {
					for flags := range 4 {
						for _, members := range lists(id(slot, inc)) {
							b := api.Beat{Id: id(slot, inc), Clock: clock, Mode: mode, Ready: flags&1 > 0, Blocked: flags > 1, Members: members}
							l = append(l, counted(b)...)
						}
					}
				}
			}
		}
	}
	return l
}

// counted are beats that are as b is, with all N and Have.
func counted(b api.Beat) []api.Beat {
	l := []api.Beat{}
	for _, n := range []int{-1, 0, 1, math.MaxInt} {
		for _, have := range []int{math.MinInt, -1, 0, 1} {
			b.N, b.Have = n, have
			l = append(l, b)
		}
	}
	return l
}

// tables are what may be known, and what never is: beats that may not be, of other
// slots, heard at any time.
func tables() []known {
	mixed, odd, shared, far := known{}, known{}, known{}, known{}
	members := all()
	for i := range mixed {
		odd[i] = api.Peer{Heard: -i, Beat: api.Beat{Id: id(6-i, i-3), Clock: i - 2, Mode: i, Ready: true, N: -i, Have: -1, Members: ids(id(-1, i), id(9, 9))}}
		shared[i] = api.Peer{Heard: i, Beat: member(id(i, 1), 4, 1, 2, members...)}
		far[i] = api.Peer{Heard: 1 << 61, Beat: joining(id(i, math.MaxInt), math.MaxInt-i%2)}
	}
	for i, b := range []api.Beat{joining(id(1, 2), 5), member(id(2, 1), 7, 3, 4, id(2, 1), id(3, 2)), blocked(member(id(3, 2), 1, 3, 4, id(2, 1), id(3, 2))), gone(id(5, 3), 2, 1, 0, id(0, 1))} {
		mixed[b.Id.Slot] = api.Peer{Heard: 10 + i, Beat: b}
	}
	return []known{{}, mixed, odd, shared, far}
}
