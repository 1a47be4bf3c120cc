package load_test

import (
	"fmt"
	"math"
	"math/rand"
	"strings"

	"phalanx/api"
)

// short is x in few words, all of them to be read.
func short(x any) string { return fmt.Sprintf("%.300q", fmt.Sprint(x)) }

// numbers are those at which something changes, and those far off.
func numbers() []int {
	return []int{
		math.MinInt, math.MinInt + 1, -1 << 32, -257, -256, -64, -2, -1, 0, 1, 2, 3, 63, 64, 65, 127, 128, 254, 255, 256, 257, 258,
		1 << 31, 1<<32 + 1, 1 << 57, 1 << 58, math.MaxInt/64 + 1, math.MaxInt - 1, math.MaxInt,
	}
}

// lengths are those of bytes that have one piece more than those ahead of them, and
// those about the most that may be.
func lengths() []int {
	return []int{0, 1, 2, 63, 64, 65, 100, 127, 128, 129, 191, 192, 193, 1000, 8192, 16319, 16320, 16321, 16383, 16384, 16385, 16386, 16448, 16449, 40000}
}

// bytesAt is so many bytes, of which no two pieces are alike.
func bytesAt(length int) string {
	r := rand.New(rand.NewSource(int64(length)))
	b := make([]byte, length)
	for i := range b {
		b[i] = byte(r.Intn(256))
	}
	return string(b)
}

// texts are bytes of all lengths, of runes, of pieces that are alike.
func texts() []string {
	l := []string{"\xff", "é", strings.Repeat("é", 100), strings.Repeat("\x00", 64), strings.Repeat("\x00", 200), strings.Repeat("a", 16384)}
	for _, length := range lengths() {
		l = append(l, bytesAt(length))
	}
	return l
}

// having is a load of the bytes' snapshot that has those pieces.
func having(view int, s string, ats ...int) api.Load {
	all := pieces(view, s)
	l := api.Load{N: view, Total: len(all), Sum: sum(s), Have: make([]bool, len(all)), Data: make([]string, len(all))}
	for _, at := range ats {
		l.Have[at], l.Data[at] = true, all[at].Data
	}
	return l
}

// upTo are the numbers below n, with that step.
func upTo(n, step int) []int {
	l := []int{}
	for i := 0; i < n; i += step {
		l = append(l, i)
	}
	return l
}

// begun are loads as Take makes them, of which something has come.
func begun() []api.Load {
	full := bytesAt(16384)
	l := []api.Load{
		having(3, "", 0), having(3, "a", 0), having(-1, bytesAt(64), 0), having(math.MinInt, bytesAt(10), 0),
		having(3, full, 0), having(3, full, 255), having(3, full, 7, 128), having(3, full, upTo(256, 2)...),
		having(3, full, upTo(255, 1)...), having(3, full, upTo(256, 1)...), having(3, full, upTo(256, 1)[1:]...),
		having(math.MaxInt, bytesAt(200), 1, 2),
	}
	s := bytesAt(130)
	for bits := 1; bits < 8; bits++ {
		ats := []int{}
		for i := range 3 {
			if bits>>i&1 == 1 {
				ats = append(ats, i)
			}
		}
		l = append(l, having(3, s, ats...))
	}
	return append(l, having(3, bytesAt(65), 0), having(3, bytesAt(65), 1), having(3, bytesAt(128), 0, 1))
}

// raw are loads that are sound, such as no call makes.
func raw() []api.Load {
	spoilt, longer, odd := having(3, bytesAt(130), 0, 1, 2), having(3, bytesAt(130), 0, 2), having(3, bytesAt(130), 1)
	spoilt.Sum++
	longer.Data[0], longer.Data[2] = strings.Repeat("x", 1000), ""
	odd.Data[0], odd.Data[2] = "there", "though it isn't had"
	unlike := having(3, "", 0)
	unlike.Sum = 1
	return []api.Load{
		{N: 3, Sum: 7}, {N: 3, Have: []bool{}, Data: []string{}}, {Sum: math.MaxUint32},
		having(3, ""), having(3, bytesAt(130)), having(0, bytesAt(16384)),
		{N: 3, Total: 2, Have: []bool{true, true}, Data: []string{"", ""}},
		{N: 3, Total: 2, Have: []bool{false, true}, Data: []string{"a", "b"}},
		{N: 3, Total: 1, Sum: sum("ab"), Have: []bool{true}, Data: []string{"ab"}},
		{N: 3, Total: 2, Sum: sum("ab"), Have: []bool{true, true}, Data: []string{"a", "b"}},
		{N: 3, Total: 3, Sum: sum("ab"), Have: []bool{true, true, false}, Data: []string{"a", "b", ""}},
		spoilt, longer, odd, unlike,
	}
}

// goodLoads are loads that are sound: those of which nothing has come, too.
func goodLoads() []api.Load {
	l := append(begun(), raw()...)
	for _, view := range numbers() {
		l = append(l, api.Load{N: view})
	}
	return l
}

// lists gives a load with lists of those lengths, all of which it has.
func lists(total, have, data int) api.Load {
	l := api.Load{N: 3, Total: total, Have: make([]bool, have), Data: make([]string, data)}
	for i := range l.Have {
		l.Have[i] = true
	}
	for i := range l.Data {
		l.Data[i] = "x"
	}
	return l
}

// badLoads are loads that aren't sound.
func badLoads() []api.Load {
	l := []api.Load{
		lists(0, 1, 0), lists(0, 0, 1), lists(0, 1, 1), lists(1, 0, 0), lists(1, 0, 1), lists(1, 1, 0), lists(1, 2, 1), lists(1, 1, 2), lists(1, 2, 2),
		lists(3, 2, 3), lists(3, 3, 2), lists(3, 4, 3), lists(3, 3, 4), lists(3, 2, 4), lists(3, 4, 2), lists(3, 4, 4), lists(3, 2, 2), lists(3, 0, 0),
		lists(256, 255, 256), lists(256, 256, 255), lists(256, 257, 256), lists(256, 256, 257),
		lists(257, 257, 257), lists(258, 258, 258), lists(257, 256, 256), lists(512, 512, 512), lists(1000, 1000, 1000),
		lists(-1, 1, 1), lists(-3, 3, 3), lists(-256, 256, 256),
	}
	for _, total := range numbers() {
		if total != 0 {
			l = append(l, lists(total, 0, 0))
		}
	}
	for i := range l {
		if i%3 == 1 {
			l[i].Sum = sum(strings.Repeat("x", len(l[i].Data)))
		}
	}
	return l
}

// places are numbers and counts of pieces near all bounds.
func places() [][2]int {
	l := [][2]int{}
	for _, total := range []int{math.MinInt, -257, -1, 0, 1, 2, 3, 4, 255, 256, 257, 1<<32 + 1, math.MaxInt} {
		for _, at := range []int{math.MinInt, -256, -1, 0, 1, 2, 3, total - 2, total - 1, total, total + 1, 254, 255, 256, 1 << 32, math.MaxInt} {
			l = append(l, [2]int{at, total})
		}
	}
	return l
}

// anyPieces are pieces that may be, and such that may not.
func anyPieces(views []int, sums []uint32) []api.Piece {
	l := []api.Piece{}
	for _, place := range places() {
		for i, n := range []int{0, 1, 2, 62, 63, 64, 65, 66, 128, 1000} {
			view, sum := views[(i+place[0]&3)%len(views)], sums[(i+place[1]&3)%len(sums)]
			l = append(l, api.Piece{N: view, At: place[0], Total: place[1], Sum: sum, Data: strings.Repeat("p", n)})
		}
	}
	return l
}
