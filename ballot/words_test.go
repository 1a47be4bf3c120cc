package ballot_test

import (
	"slices"

	"phalanx/api"
)

// The words of the chapter, done one by one.

// order is Cmp: by Round, then by Slot.
func order(a, b api.Ballot) int {
	return slices.Compare([]int{a.Round, a.Slot}, []int{b.Round, b.Slot})
}

// right is Right.
func right(b api.Ballot) bool {
	return b.Round > 0 && slices.Contains([]int{0, 1, 2, 3, 4, 5, 6}, b.Slot)
}

// prepare is Prepare.
func prepare(v api.Vote, b api.Ballot) (api.Vote, bool) {
	if right(b) && order(b, v.Promised) != -1 {
		return api.Vote{Promised: b, Accepted: v.Accepted, Value: v.Value}, true
	}
	return v, false
}

// accept is Accept.
func accept(v api.Vote, b api.Ballot, value string) (api.Vote, bool) {
	if right(b) && order(b, v.Promised) != -1 {
		return api.Vote{Promised: b, Accepted: b, Value: value}, true
	}
	return v, false
}

// choose is Choose: those by which nobody may try go, the rest is sorted, and those
// that are the same stay in their order.
func choose(l []api.Promise) (string, bool) {
	count := slices.DeleteFunc(slices.Clone(l), func(p api.Promise) bool { return !right(p.Accepted) })
	slices.SortStableFunc(count, func(p, q api.Promise) int { return order(q.Accepted, p.Accepted) })
	if len(count) == 0 {
		return "", false
	}
	return count[0].Value, true
}
