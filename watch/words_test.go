package watch_test

import (
	"fmt"
	"slices"

	"phalanx/api"
)

// The words of the chapter, done one by one.

// known is what is known, a peer for each slot.
type known = [7]api.Peer

// rises tells whether the nodes are right, and each slot is above all ahead of it.
func rises(l []api.Id) bool {
	for i, x := range l {
		if x.Slot < 0 || x.Slot > 6 || x.Inc < 1 {
			return false
		}
		for _, y := range l[:i] {
			if y.Slot >= x.Slot {
				return false
			}
		}
	}
	return true
}

// right is Right: all that the words ask for holds.
func right(b api.Beat) bool {
	asked := []bool{b.Id.Slot >= 0, b.Id.Slot <= 6, b.Id.Inc > 0, rises(b.Members), b.Clock > 0, b.N >= 0, b.Have >= 0}
	switch b.Mode {
	case 0:
		asked = append(asked, !b.Ready, !b.Blocked, b.N == 0, b.Have == 0, len(b.Members) == 0)
	case 1:
		asked = append(asked, b.N > 0, slices.Contains(b.Members, b.Id))
	case 2:
		asked = append(asked, !b.Ready, !b.Blocked, b.N > 0)
	default:
		return false
	}
	return !slices.Contains(asked, false)
}

// hear is Hear.
func hear(t known, b api.Beat, now int) (known, bool) {
	if !right(b) {
		return t, false
	}
	last := t[b.Id.Slot].Beat
	later := b.Id.Inc > last.Id.Inc
	same := b.Id.Inc == last.Id.Inc
	if !later && (!same || b.Clock <= last.Clock) {
		return t, false
	}
	t[b.Id.Slot] = api.Peer{Heard: now, Beat: b}
	return t, true
}

// late is Late: patience is over at each of the times that count, since and the time
// at which x was heard.
func late(t known, x api.Id, now, since, patience int) bool {
	if x.Slot < 0 || x.Slot > 6 || t[x.Slot].Beat.Id.Inc > x.Inc {
		return true
	}
	over := now-since >= patience
	if t[x.Slot].Beat.Id == x {
		over = over && now-t[x.Slot].Heard >= patience
	}
	return over
}

// items is Items.
func items(b api.Beat) []api.Item {
	bit := map[bool]int{true: 1}
	numbers := []int{b.Id.Slot, b.Id.Inc, b.Clock, b.Mode, bit[b.Ready], bit[b.Blocked], b.N, b.Have, len(b.Members)}
	for _, x := range b.Members {
		numbers = append(numbers, x.Slot, x.Inc)
	}
	l := []api.Item{}
	for _, n := range numbers {
		l = append(l, number(n))
	}
	return l
}

// from is From: the numbers are read one by one, and any that is left over, or that
// isn't there, is one too many.
func from(l []api.Item) (api.Beat, bool) {
	numbers := []int{}
	for _, x := range l {
		if x.Kind != 0 || x.S != "" {
			return api.Beat{}, false
		}
		numbers = append(numbers, x.N)
	}
	if len(numbers) < 9 || numbers[8] < 0 || numbers[8] > 7 || len(numbers) != 9+2*numbers[8] {
		return api.Beat{}, false
	}
	for _, flag := range numbers[4:6] {
		if flag != 0 && flag != 1 {
			return api.Beat{}, false
		}
	}
	b := api.Beat{
		Id: id(numbers[0], numbers[1]), Clock: numbers[2], Mode: numbers[3], Ready: numbers[4] == 1, Blocked: numbers[5] == 1,
		N: numbers[6], Have: numbers[7],
	}
	for at := 9; at < len(numbers); at += 2 {
		b.Members = append(b.Members, id(numbers[at], numbers[at+1]))
	}
	if !right(b) {
		return api.Beat{}, false
	}
	return b, true
}

// like tells whether the beats are alike.
func like(a, b api.Beat) bool {
	flags := a.Ready == b.Ready && a.Blocked == b.Blocked
	return flags && a.Id == b.Id && a.Clock == b.Clock && a.Mode == b.Mode && a.N == b.N && a.Have == b.Have && slices.Equal(a.Members, b.Members)
}

// alike tells whether the same is known.
func alike(t, u known) bool {
	for i, p := range t {
		if p.Heard != u[i].Heard || !like(p.Beat, u[i].Beat) {
			return false
		}
	}
	return true
}

// zero tells whether all of the beat is zero.
func zero(b api.Beat) bool { return like(b, api.Beat{}) }

// marked is a node that stands in no list.
var marked = id(-77, -77)

// roomy is the list with three marks in the room behind it.
func roomy(l []api.Id) []api.Id {
	return slices.Concat(l, ids(marked, marked, marked))[:len(l)]
}

// roomyBeat is the beat with such Members.
func roomyBeat(b api.Beat) api.Beat {
	b.Members = roomy(b.Members)
	return b
}

// roomyKnown is what is known with such Members in each slot.
func roomyKnown(t known) known {
	for i := range t {
		t[i].Beat = roomyBeat(t[i].Beat)
	}
	return t
}

// stays tells whether the roomy list has l's nodes, and the marks still.
func stays(room, l []api.Id) bool {
	return slices.Equal(room[:len(l)+3], slices.Concat(l, ids(marked, marked, marked)))
}

// spoil turns all that there is in the list's memory, the room behind it too.
func spoil(l []api.Id) {
	all := l[:cap(l)]
	for i := range all {
		all[i] = id(-88, -88)
	}
}

// short is x in few words, all of them to be read.
func short(x any) string { return fmt.Sprintf("%.500q", fmt.Sprint(x)) }
