package ballot_test

import (
	"fmt"
	"math"
	"slices"
	"strings"

	"phalanx/api"
)

func at(round, slot int) api.Ballot { return api.Ballot{Round: round, Slot: slot} }

// had is a promise that tells what was accepted.
func had(round, slot int, value string) api.Promise {
	return api.Promise{Accepted: at(round, slot), Value: value}
}

func promises(l ...api.Promise) []api.Promise { return l }

// short is x in few words, all of them to be read.
func short(x any) string { return fmt.Sprintf("%.300q", fmt.Sprint(x)) }

// numbers are rounds and slots about all bounds.
func numbers() []int {
	return []int{math.MinInt, math.MinInt + 1, -1 << 32, -1 << 31, -256, -7, -6, -2, -1, 0, 1, 2, 3, 5, 6, 7, 8, 255, 256, 257,
		1<<31 - 1, 1 << 31, 1<<32 - 1, 1 << 32, 1<<32 + 1, 1<<32 + 6, math.MaxInt - 1, math.MaxInt}
}

// ballots are ballots of all these numbers.
func ballots() []api.Ballot {
	l := []api.Ballot{}
	for _, round := range numbers() {
		for _, slot := range numbers() {
			l = append(l, at(round, slot))
		}
	}
	return l
}

// few are some ballots: about all bounds, but of fewer numbers.
func few() []api.Ballot {
	l := []api.Ballot{}
	for _, round := range []int{math.MinInt, -1, 0, 1, 2, 1<<32 + 1, math.MaxInt - 1, math.MaxInt} {
		for _, slot := range []int{math.MinInt, -1, 0, 1, 5, 6, 7, math.MaxInt} {
			l = append(l, at(round, slot))
		}
	}
	return l
}

// values are values, those of texts with any bytes among them.
func values() []string {
	return []string{"", "x", "y", "é", "\x00", "\xff\xfe", strings.Repeat("v", 64), strings.Repeat("w", 20000)}
}

// marked is a promise that stands in no list.
var marked = had(77, 5, "marked")

// roomy is l's promises, with three that are marked in the spare room behind them.
func roomy(l []api.Promise) []api.Promise {
	return slices.Concat(l, promises(marked, marked, marked))[:len(l)]
}

// stays tells whether the roomy list has l's promises, and the marked ones still.
func stays(room, l []api.Promise) bool {
	return slices.Equal(room[:len(l)+3], slices.Concat(l, promises(marked, marked, marked)))
}
