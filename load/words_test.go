package load_test

import (
	"hash/crc32"
	"slices"

	"phalanx/api"
	"phalanx/load"
)

// The words of the chapter, done one by one; sums are the library's.

// sum is the sum of the bytes.
func sum(s string) uint32 { return crc32.ChecksumIEEE([]byte(s)) }

// parts are the bytes in pieces, taken off the front one by one.
func parts(s string) []string {
	l := []string{}
	for len(s) > 64 {
		l = append(l, s[:64])
		s = s[64:]
	}
	return append(l, s)
}

// pieces are the bytes' pieces, also where there are more than may be.
func pieces(view int, s string) []api.Piece {
	l, all, sum := []api.Piece{}, parts(s), sum(s)
	for i, data := range all {
		l = append(l, api.Piece{N: view, At: i, Total: len(all), Sum: sum, Data: data})
	}
	return l
}

// cut is Cut.
func cut(view int, s string, at int) (api.Piece, api.Errno) {
	l := pieces(view, s)
	if len(l) > 256 {
		return api.Piece{}, api.ErrLong
	}
	for i, p := range l {
		if i == at {
			return p, api.OK
		}
	}
	return api.Piece{}, api.ErrNone
}

// right is Right.
func right(p api.Piece) bool {
	if p.Total < 1 || p.Total > 256 || p.At < 0 || p.At > p.Total-1 {
		return false
	}
	n := len(p.Data)
	last := p.At == p.Total-1
	return n == 64 || n < 64 && last && (n > 0 || p.Total == 1)
}

// sound tells whether a load is sound.
func sound(l api.Load) bool {
	return l.Total >= 0 && l.Total <= 256 && len(l.Have) == l.Total && len(l.Data) == l.Total
}

// take is Take.
func take(l api.Load, p api.Piece) (api.Load, api.Errno) {
	come := l.Total != 0
	for _, x := range []struct {
		applies func() bool
		e       api.Errno
	}{
		{func() bool { return !sound(l) || !right(p) }, api.ErrArg},
		{func() bool { return l.N != p.N }, api.ErrUnlike},
		{func() bool { return come && l.Total != p.Total }, api.ErrUnlike},
		{func() bool { return come && l.Sum != p.Sum }, api.ErrUnlike},
		{func() bool { return come && l.Have[p.At] }, api.ErrTwice},
	} {
		if x.applies() {
			return l, x.e
		}
	}
	m := api.Load{N: l.N, Total: p.Total, Sum: p.Sum}
	for i := range p.Total {
		has, data := i == p.At, ""
		if come {
			has, data = has || l.Have[i], l.Data[i]
		}
		if i == p.At {
			data = p.Data
		}
		m.Have, m.Data = append(m.Have, has), append(m.Data, data)
	}
	return m, api.OK
}

// missing is Missing.
func missing(l api.Load) int {
	if !sound(l) || l.Total == 0 {
		return 0
	}
	for i, has := range l.Have {
		if !has {
			return i
		}
	}
	return -1
}

// whole is Whole.
func whole(l api.Load) (string, api.Errno) {
	if missing(l) >= 0 {
		return "", api.ErrNone
	}
	s := ""
	for _, data := range l.Data {
		s += data
	}
	if sum(s) != l.Sum {
		return "", api.ErrSum
	}
	return s, api.OK
}

// same tells whether the loads are alike.
func same(l, m api.Load) bool {
	lists := slices.Equal(l.Have, m.Have) && slices.Equal(l.Data, m.Data)
	return lists && l.N == m.N && l.Total == m.Total && l.Sum == m.Sum
}

// room is how much spare room roomy makes.
const room = 3

// roomy is the load with lists of its own, and room behind them that holds marks.
func roomy(l api.Load) api.Load {
	l.Have = slices.Concat(l.Have, []bool{true, false, true})[:len(l.Have)]
	l.Data = slices.Concat(l.Data, []string{"mark", "", "mark"})[:len(l.Data)]
	return l
}

// spoil turns all that the lists hold, their spare room too.
func spoil(l api.Load) {
	have, data := l.Have[:cap(l.Have)], l.Data[:cap(l.Data)]
	for i, has := range have {
		have[i] = !has
	}
	for i, s := range data {
		data[i] = s + "other"
	}
}

// wide is a roomy load with its room.
func wide(l api.Load) api.Load {
	l.Have, l.Data = l.Have[:len(l.Have)+room], l.Data[:len(l.Data)+room]
	return l
}

// clone is the load with lists of its own.
func clone(l api.Load) api.Load {
	l.Have, l.Data = slices.Clone(l.Have), slices.Clone(l.Data)
	return l
}

// cutAll are the pieces that Cut gives; of bytes that have more than may be, none.
func cutAll(view int, s string) []api.Piece {
	l := []api.Piece{}
	for at := range load.Count(s) {
		if p, e := load.Cut(view, s, at); e == api.OK {
			l = append(l, p)
		}
	}
	return l
}
