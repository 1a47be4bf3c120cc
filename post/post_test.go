package post_test

import (
	"fmt"
	"math"
	"math/rand"
	"slices"
	"strings"
	"testing"

	"phalanx/api"
	"phalanx/post"
)

func mails(l ...api.Mail) []api.Mail { return l }

// mail is a message as it is sent, spoilt one that is taken for spoilt.
func mail(from, to int, data string) api.Mail { return api.Mail{From: from, To: to, Data: data} }
func spoilt(from, to int, data string) api.Mail {
	return api.Mail{From: from, To: to, Data: data, Spoilt: true}
}

// holding is a post of these messages, each of its places on a side of its own.
func holding(l ...api.Mail) api.Post {
	p := api.Post{Mails: l}
	for n := range p.Sides {
		p.Sides[n] = 100 + n
	}
	return p
}

// full is a post of so many messages, no two alike.
func full(count int) api.Post {
	p := holding()
	for i := range count {
		p.Mails = append(p.Mails, api.Mail{From: i % 12, To: i / 12 % 12, Data: fmt.Sprint(i), Spoilt: i%3 == 0})
	}
	return p
}

// raw are messages that hold anything, such that Send never makes among them.
func raw() []api.Mail {
	return mails(mail(0, 1, "ab"), mail(11, 0, ""), spoilt(3, 3, ""), spoilt(6, 7, "\x00"), mail(12, 0, "a"), mail(0, -1, "b"),
		mail(math.MinInt, math.MaxInt, "\xff\x00"), spoilt(-1, -1, "é"), mail(5, 5, strings.Repeat("x", 16393)))
}

// posts are some at all sizes that matter, messages at will in them.
func posts() []api.Post {
	return []api.Post{{}, {Mails: mails()}, holding(), holding(raw()[:1]...), holding(raw()...), full(3), full(40)}
}

// ends are the numbers at which something changes, and those far off.
func ends() []int {
	return []int{math.MinInt, math.MinInt + 1, -256, -13, -12, -2, -1, 0, 1, 6, 7, 10, 11, 12, 13, 255, 256, 257, 1 << 32, 1<<32 + 1, math.MaxInt - 1, math.MaxInt}
}

// place is whether n is one, by what the document says of slots and clients.
func place(n int) bool { return n >= 0 && n <= 6 || n >= 7 && n <= 11 }

// clone gives p with messages of its own, and room behind them that holds marks.
func clone(p api.Post) api.Post {
	room := slices.Concat(p.Mails, mails(marked, marked, marked))
	p.Mails = room[:len(p.Mails)]
	return p
}

var marked = spoilt(-9, -9, "mark")

// like tells whether the posts have the same messages in one order, and sides.
func like(p, q api.Post) bool {
	return slices.Equal(p.Mails, q.Mails) && p.Sides == q.Sides
}

// answer is what a call gives; those that give no message have none here.
type answer struct {
	post    api.Post
	mail    api.Mail
	arrives bool
	e       api.Errno
}

// asks holds what the call answers against what it should, and it to leave p as
// it is, spare room too, and to hand out no memory of it.
func asks(t *testing.T, what string, p api.Post, call func(api.Post) answer, want answer) {
	t.Helper()
	want.post = clone(want.post)
	given := clone(p)
	got := call(given)
	if !like(got.post, want.post) || got.mail != want.mail || got.arrives != want.arrives || got.e != want.e {
		t.Fatalf("%s of %s = %s, not %s", what, told(p), got.told(), want.told())
	}
	all := got.post.Mails[:cap(got.post.Mails)]
	for i := range all {
		all[i] = mail(8, 8, "other")
	}
	room := given.Mails[:len(given.Mails)+3]
	if given.Sides != p.Sides || !slices.Equal(room, slices.Concat(p.Mails, mails(marked, marked, marked))) {
		t.Fatalf("%s changes what it is given, or hands out memory of it: %s", what, told(p))
	}
	got = call(given)
	for i := range given.Mails {
		given.Mails[i] = marked
	}
	if !like(got.post, want.post) {
		t.Fatalf("%s keeps what it is given: %s", what, told(p))
	}
}

// short is m in few words, told p, of which it tells few messages.
func short(m api.Mail) string {
	return fmt.Sprintf("%d to %d %.20q (%d bytes, spoilt %t)", m.From, m.To, m.Data, len(m.Data), m.Spoilt)
}

func told(p api.Post) string {
	s := fmt.Sprintf("{sides %v, %d messages", p.Sides, len(p.Mails))
	for _, m := range p.Mails[:min(len(p.Mails), 10)] {
		s += ", " + short(m)
	}
	return s + "}"
}

func (a answer) told() string {
	return fmt.Sprintf("(%s; %s, %t, %d)", told(a.post), short(a.mail), a.arrives, a.e)
}

// The calls, each with all but the post fixed.

func send(m api.Mail) func(api.Post) answer {
	return func(p api.Post) answer {
		q, e := post.Send(p, m)
		return answer{post: q, e: e}
	}
}

func take(i int) func(api.Post) answer {
	return func(p api.Post) answer {
		q, m, is, e := post.Take(p, i)
		return answer{q, m, is, e}
	}
}

func lose(i int) func(api.Post) answer {
	return func(p api.Post) answer {
		q, e := post.Lose(p, i)
		return answer{post: q, e: e}
	}
}

func twice(i int) func(api.Post) answer {
	return func(p api.Post) answer {
		q, e := post.Twice(p, i)
		return answer{post: q, e: e}
	}
}

func spoil(i, at int, turn byte) func(api.Post) answer {
	return func(p api.Post) answer {
		q, e := post.Spoil(p, i, at, turn)
		return answer{post: q, e: e}
	}
}

func move(n, side int) func(api.Post) answer {
	return func(p api.Post) answer {
		q, e := post.Move(p, n, side)
		return answer{post: q, e: e}
	}
}

// refused asks that the call answer the error, with p as it was and no more.
func refused(t *testing.T, what string, p api.Post, call func(api.Post) answer, e api.Errno) {
	t.Helper()
	asks(t, what, p, call, answer{post: p, e: e})
}

// numbers are those of p's messages and of none.
func numbers(p api.Post) []int {
	l := append(ends(), len(p.Mails)-1, len(p.Mails), len(p.Mails)+1, len(p.Mails)+2)
	for i := range min(len(p.Mails), 50) {
		l = append(l, i)
	}
	return l
}

// isOf is whether p has such a message.
func isOf(p api.Post, i int) bool { return i >= 0 && i < len(p.Mails) }

// P7.1

// sent asks that m be sent, behind all that p has.
func sent(t *testing.T, p api.Post, m api.Mail) {
	t.Helper()
	want := p
	want.Mails = slices.Concat(p.Mails, mails(mail(m.From, m.To, m.Data)))
	asks(t, fmt.Sprintf("Send(%s)", short(m)), p, send(m), answer{post: want})
}

func TestSendKnown(t *testing.T) {
	for _, p := range posts() {
		for _, m := range mails(mail(0, 1, "ab"), mail(0, 0, ""), mail(11, 6, "\x00\xff"), mail(7, 11, "é"), spoilt(1, 2, "ab"), spoilt(0, 11, "")) {
			sent(t, p, m)
		}
	}
}

func TestSendEachPlace(t *testing.T) {
	l := ends()
	for n := -3; n < 16; n++ {
		l = append(l, n)
	}
	for _, from := range l {
		for _, to := range l {
			if place(from) && place(to) {
				sent(t, full(2), mail(from, to, "ab"))
				continue
			}
			refused(t, fmt.Sprintf("Send(%d to %d)", from, to), full(2), send(mail(from, to, "ab")), api.ErrArg)
		}
	}
}

func TestSendEachLength(t *testing.T) {
	for _, size := range []int{0, 1, 255, 256, 16383, 16384, 16385, 16391, 16392} {
		sent(t, full(2), mail(3, 4, strings.Repeat("a", size)))
	}
	for _, size := range []int{16393, 16394, 32768, 65536, 65537, 1 << 20} {
		refused(t, fmt.Sprintf("Send(%d bytes)", size), full(2), send(mail(3, 4, strings.Repeat("a", size))), api.ErrLong)
	}
	// Bytes count, not runes.
	sent(t, full(2), mail(3, 4, strings.Repeat("é", 8196)))
	refused(t, "Send(8197 runes)", full(2), send(mail(3, 4, strings.Repeat("é", 8196)+"a")), api.ErrLong)
}

func TestSendEachCount(t *testing.T) {
	for _, count := range []int{0, 1, 7, 2046, 2047} {
		sent(t, full(count), mail(3, 4, "ab"))
	}
	for _, count := range []int{2048, 2049, 2050, 4096} {
		refused(t, "Send", full(count), send(mail(3, 4, "ab")), api.ErrFull)
	}
}

func TestSendIntoAPostThatFills(t *testing.T) {
	p := api.Post{}
	for i := range 2048 {
		q, e := post.Send(p, mail(i%12, 5, fmt.Sprint(i)))
		if e != api.OK || len(q.Mails) != i+1 {
			t.Fatalf("message %d: %d, %d messages", i, e, len(q.Mails))
		}
		p = q
	}
	for i, m := range p.Mails {
		if m != mail(i%12, 5, fmt.Sprint(i)) {
			t.Fatalf("message %d is %v", i, m)
		}
	}
	refused(t, "Send", p, send(mail(0, 1, "")), api.ErrFull)
	p, _ = post.Lose(p, 9)
	sent(t, p, mail(0, 1, ""))
}

func TestSendNamesTheFirstError(t *testing.T) {
	long := strings.Repeat("a", 16393)
	refused(t, "Send(nowhere, long)", full(2048), send(mail(12, 0, long)), api.ErrArg)
	refused(t, "Send(nowhere, long)", full(2), send(mail(0, -1, long)), api.ErrArg)
	refused(t, "Send(nowhere)", full(2048), send(mail(-1, 12, "")), api.ErrArg)
	refused(t, "Send(long)", full(2048), send(mail(0, 1, long)), api.ErrLong)
}

// P7.2

func TestTakeAndLoseOfAny(t *testing.T) {
	for _, p := range append(posts(), full(2048), full(2100)) {
		for _, i := range numbers(p) {
			if !isOf(p, i) {
				refused(t, fmt.Sprintf("Take(%d)", i), p, take(i), api.ErrNone)
				refused(t, fmt.Sprintf("Lose(%d)", i), p, lose(i), api.ErrNone)
				continue
			}
			m, rest := p.Mails[i], p
			rest.Mails = slices.Concat(p.Mails[:i], p.Mails[i+1:])
			arrives := place(m.From) && place(m.To) && p.Sides[m.From] == p.Sides[m.To]
			asks(t, fmt.Sprintf("Take(%d)", i), p, take(i), answer{post: rest, mail: m, arrives: arrives})
			asks(t, fmt.Sprintf("Lose(%d)", i), p, lose(i), answer{post: rest})
		}
	}
}

func TestTakeKnown(t *testing.T) {
	a, b, c := mail(0, 1, "a"), spoilt(1, 2, "b"), mail(7, 7, "c")
	p := api.Post{Mails: mails(a, b, c)}
	p.Sides[1] = -4
	known := []struct {
		i       int
		m       api.Mail
		arrives bool
		left    []api.Mail
	}{
		{0, a, false, mails(b, c)},
		{1, b, false, mails(a, c)},
		{2, c, true, mails(a, b)},
	}
	for _, k := range known {
		rest := api.Post{Mails: k.left, Sides: p.Sides}
		asks(t, fmt.Sprintf("Take(%d)", k.i), p, take(k.i), answer{post: rest, mail: k.m, arrives: k.arrives})
	}
}

// TestTakeArrives puts one place after the other on another side than the rest.
func TestTakeArrives(t *testing.T) {
	for _, rest := range []int{0, 1, -1, math.MinInt, math.MaxInt} {
		for _, side := range []int{0, 1, 2, -1, 1 << 32, math.MinInt, math.MaxInt} {
			for n := range 12 {
				p := api.Post{}
				for k := range p.Sides {
					p.Sides[k] = rest
				}
				p.Sides[n] = side
				for from := range 12 {
					for to := range 12 {
						p.Mails = mails(mail(from, to, "ab"))
						want := side == rest || from != n && to != n || from == to
						if _, _, is, e := post.Take(p, 0); is != want || e != api.OK {
							t.Fatalf("Take(%d to %d), sides %v: %t, %d", from, to, p.Sides, is, e)
						}
					}
				}
			}
		}
	}
}

// TestTakeFromNowhere: what is from no place, or to none, doesn't arrive.
func TestTakeFromNowhere(t *testing.T) {
	for _, n := range ends() {
		for _, m := range mails(mail(n, 0, "a"), mail(0, n, "a"), mail(n, n, "a")) {
			want := answer{mail: m, arrives: place(n)}
			asks(t, fmt.Sprintf("Take(%d to %d)", m.From, m.To), api.Post{Mails: mails(m)}, take(0), want)
		}
	}
}

func TestTakeAll(t *testing.T) {
	p := full(5)
	whole := p.Mails
	for _, k := range []struct{ i, was int }{{2, 2}, {3, 4}, {0, 0}, {1, 3}, {0, 1}} {
		q, m, _, e := post.Take(p, k.i)
		if e != api.OK || m != whole[k.was] {
			t.Fatalf("Take(%d) of %s = %v, %d, not %v", k.i, told(p), m, e, whole[k.was])
		}
		p = q
	}
	refused(t, "Take", p, take(0), api.ErrNone)
}

// P7.3

func TestTwiceOfAny(t *testing.T) {
	for _, p := range append(posts(), full(2047), full(2048), full(2100)) {
		for _, i := range numbers(p) {
			what := fmt.Sprintf("Twice(%d)", i)
			switch {
			case !isOf(p, i):
				refused(t, what, p, twice(i), api.ErrNone)
			case len(p.Mails) > 2047:
				refused(t, what, p, twice(i), api.ErrFull)
			default:
				want := p
				want.Mails = slices.Concat(p.Mails, p.Mails[i:i+1])
				asks(t, what, p, twice(i), answer{post: want})
			}
		}
	}
}

func TestTwiceIsSpoiltIfThatIs(t *testing.T) {
	a, b := spoilt(0, 1, "a"), mail(0, 1, "a")
	asks(t, "Twice(0)", holding(a, b), twice(0), answer{post: holding(a, b, a)})
	asks(t, "Twice(1)", holding(a, b), twice(1), answer{post: holding(a, b, b)})
	// Each of the two goes its own way from there.
	p, _ := post.Twice(holding(b), 0)
	asks(t, "Spoil(0)", p, spoil(0, 0, 1), answer{post: holding(spoilt(0, 1, "`"), b)})
	asks(t, "Spoil(1)", p, spoil(1, 0, 1), answer{post: holding(b, spoilt(0, 1, "`"))})
}

// P7.4

// turned is s with those bits of its byte number at that either it or turn has,
// but not both.
func turned(s string, at int, turn byte) string {
	either, both := s[at]|turn, s[at]&turn
	return s[:at] + string([]byte{either - both}) + s[at+1:]
}

func TestSpoilKnown(t *testing.T) {
	ab := mail(0, 1, "ab")
	known := []struct {
		at   int
		turn byte
		data string
	}{
		{1, 3, "aa"}, {0, 3, "bb"}, {0, 1, "`b"}, {1, 255, "a\x9d"}, {0, 128, "\xe1b"}, {0, 'a', "\x00b"},
	}
	for _, k := range known {
		what := fmt.Sprintf("Spoil(1, %d, %d)", k.at, k.turn)
		asks(t, what, holding(ab, ab, ab), spoil(1, k.at, k.turn), answer{post: holding(ab, spoilt(0, 1, k.data), ab)})
	}
}

func TestSpoilEachByte(t *testing.T) {
	for b := range 256 {
		m := mail(4, 9, string([]byte{'x', byte(b), 'y'}))
		for turn := 1; turn < 256; turn++ {
			q, e := post.Spoil(holding(m), 0, 1, byte(turn))
			want := spoilt(4, 9, turned(m.Data, 1, byte(turn)))
			if e != api.OK || !like(q, holding(want)) {
				t.Fatalf("Spoil(%q by %d) = %s, %d", m.Data, turn, told(q), e)
			}
		}
	}
}

// by is Spoil by the chapter's words.
func by(p api.Post, i, at int, turn byte) answer {
	if !isOf(p, i) {
		return answer{post: p, e: api.ErrNone}
	}
	m := p.Mails[i]
	if at < 0 || at > len(m.Data)-1 || turn == 0 {
		return answer{post: p, e: api.ErrArg}
	}
	if m.Spoilt {
		return answer{post: p, e: api.ErrTwice}
	}
	p.Mails = slices.Concat(p.Mails[:i], mails(spoilt(m.From, m.To, turned(m.Data, at, turn))), p.Mails[i+1:])
	return answer{post: p}
}

func TestSpoilOfAny(t *testing.T) {
	for _, p := range posts() {
		for _, i := range numbers(p) {
			for _, at := range append(ends(), 2, 3, 4, 16391, 16392, 16393) {
				for _, turn := range []byte{0, 1, 2, 127, 128, 255} {
					if len(p.Mails) > 9 && i > 4 && at > 1 {
						continue
					}
					what := fmt.Sprintf("Spoil(%d, %d, %d)", i, at, turn)
					asks(t, what, p, spoil(i, at, turn), by(p, i, at, turn))
				}
			}
		}
	}
}

func TestSpoilNamesTheFirstError(t *testing.T) {
	p := holding(spoilt(0, 1, "ab"), mail(0, 1, ""))
	refused(t, "no message, no byte, no turn", p, spoil(2, 2, 0), api.ErrNone)
	refused(t, "no message", p, spoil(-1, 0, 1), api.ErrNone)
	refused(t, "no byte, spoilt", p, spoil(0, 2, 1), api.ErrArg)
	refused(t, "no byte, spoilt", p, spoil(0, -1, 1), api.ErrArg)
	refused(t, "no turn, spoilt", p, spoil(0, 0, 0), api.ErrArg)
	refused(t, "spoilt", p, spoil(0, 0, 1), api.ErrTwice)
	refused(t, "no byte at all", p, spoil(1, 0, 1), api.ErrArg)
}

// TestSpoilOfWhatIsSpoilt: not even the turn back is taken, nor of its copy.
func TestSpoilOfWhatIsSpoilt(t *testing.T) {
	p, _ := post.Spoil(holding(mail(0, 1, "ab")), 0, 1, 3)
	p, _ = post.Twice(p, 0)
	for i := range 2 {
		for at := range 2 {
			refused(t, "Spoil", p, spoil(i, at, 3), api.ErrTwice)
		}
	}
}

// TestSpoilLeavesThePostAsLongAsItIs: a full post can be spoilt, a longer too.
func TestSpoilLeavesThePostAsLongAsItIs(t *testing.T) {
	for _, count := range []int{2047, 2048, 2100} {
		for _, i := range []int{0, 1, 1000, 2045} {
			asks(t, fmt.Sprintf("Spoil(%d)", i), full(count), spoil(i, 0, 7), by(full(count), i, 0, 7))
		}
	}
}

// P7.5

func TestMoveOfAny(t *testing.T) {
	for _, p := range posts() {
		for _, n := range append(ends(), 2, 3, 4, 5, 8, 9) {
			for _, side := range ends() {
				what := fmt.Sprintf("Move(%d, %d)", n, side)
				if !place(n) {
					refused(t, what, p, move(n, side), api.ErrArg)
					continue
				}
				want := p
				want.Sides[n] = side
				asks(t, what, p, move(n, side), answer{post: want})
			}
		}
	}
}

func TestMoveThereAndBack(t *testing.T) {
	p := api.Post{Mails: mails(mail(2, 8, "ab"))}
	for n := range 12 {
		q, _ := post.Move(p, n, 7)
		_, _, is, _ := post.Take(q, 0)
		if is != (n != 2 && n != 8) {
			t.Errorf("%d on another side: %t", n, is)
		}
		q, _ = post.Move(q, n, 0)
		if !like(q, p) {
			t.Errorf("%d back again: %s", n, told(q))
		}
	}
	q, _ := post.Move(p, 2, 7)
	q, _ = post.Move(q, 8, 7)
	if _, _, is, _ := post.Take(q, 0); !is {
		t.Error("both on another side: it doesn't arrive")
	}
}

// P7.6

// walk is a post on which calls at will are made, and what was sent by them.
type walk struct {
	r    *rand.Rand
	p    api.Post
	sent map[string]bool
}

// step makes one call, be it refused or not.
func (w *walk) step() {
	i := w.r.Intn(len(w.p.Mails)+2) - 1
	switch w.r.Intn(9) {
	case 0, 1, 2, 3:
		b := make([]byte, w.r.Intn(5))
		w.r.Read(b)
		m := api.Mail{From: w.r.Intn(14) - 1, To: w.r.Intn(14) - 1, Data: string(b), Spoilt: w.r.Intn(2) == 0}
		q, e := post.Send(w.p, m)
		if e == api.OK {
			w.sent[m.Data] = true
		}
		w.p = q
	case 4:
		w.p, _ = post.Twice(w.p, i)
	case 5, 6:
		w.p, _ = post.Spoil(w.p, i, w.r.Intn(6)-1, byte(w.r.Intn(256)))
	case 7:
		w.p, _ = post.Lose(w.p, i)
	case 8:
		w.p, _ = post.Move(w.p, w.r.Intn(14)-1, w.r.Intn(3))
	}
}

// may is whether the data are as they may be: sent, or one byte off that.
func (w *walk) may(m api.Mail) bool {
	if !m.Spoilt {
		return w.sent[m.Data]
	}
	for s := range w.sent {
		if off(s, m.Data) == 1 {
			return true
		}
	}
	return false
}

// off is how many bytes of the two differ, -1 at other lengths.
func off(s, u string) int {
	if len(s) != len(u) {
		return -1
	}
	n := 0
	for i := range len(s) {
		if s[i] != u[i] {
			n++
		}
	}
	return n
}

func TestEachMessageIsOneThatWasSent(t *testing.T) {
	for seed := range int64(60) {
		w := walk{r: rand.New(rand.NewSource(seed)), sent: map[string]bool{}}
		turns := 0
		for range 150 {
			w.step()
			for i, m := range w.p.Mails {
				_, got, _, e := post.Take(w.p, i)
				if got != m || e != api.OK || !w.may(m) {
					t.Fatalf("seed %d: %s, that was never sent, or not so", seed, short(m))
				}
				if m.Spoilt {
					turns++
				}
			}
		}
		if turns == 0 {
			t.Errorf("seed %d spoils nothing", seed)
		}
	}
}

// TestEachSpoiltOneIsOneByteOff holds each against the very message it was: all
// that is sent has a number of its own in its data, that isn't spoilt.
func TestEachSpoiltOneIsOneByteOff(t *testing.T) {
	r := rand.New(rand.NewSource(7))
	p := api.Post{}
	was := []string{}
	for step := range 4000 {
		i := r.Intn(len(p.Mails) + 1)
		switch r.Intn(5) {
		case 0, 1:
			data := fmt.Sprintf("%04d", len(was)) + strings.Repeat("z", 1+r.Intn(6))
			was = append(was, data)
			p, _ = post.Send(p, mail(r.Intn(12), r.Intn(12), data))
		case 2:
			p, _ = post.Spoil(p, i, 4+r.Intn(6), byte(r.Intn(256)))
		case 3:
			p, _ = post.Twice(p, i)
		case 4:
			p, _, _, _ = post.Take(p, i)
		}
		for _, m := range p.Mails {
			number := 0
			fmt.Sscanf(m.Data[:4], "%d", &number)
			if n := off(was[number], m.Data); n != 0 && !m.Spoilt || n != 1 && m.Spoilt {
				t.Fatalf("step %d: %s was %q", step, short(m), was[number])
			}
		}
	}
}

// The chapter's examples.

func ExampleSend() {
	p, e := post.Send(api.Post{}, api.Mail{From: 0, To: 1, Data: "ab"})
	_, f := post.Send(p, api.Mail{From: 0, To: 12, Data: "ab"})
	fmt.Println(p.Mails, e, f == api.ErrArg)
	// Output: [{0 1 ab false}] 0 true
}

func ExampleTake() {
	p, _ := post.Send(api.Post{}, api.Mail{From: 0, To: 1, Data: "ab"})
	q, m, arrives, e := post.Take(p, 0)
	fmt.Println(m, arrives, e)
	_, _, _, e = post.Take(q, 0)
	fmt.Println(e == api.ErrNone)
	q, _ = post.Move(p, 1, 2)
	_, m, arrives, e = post.Take(q, 0)
	fmt.Println(m, arrives, e)
	// Output:
	// {0 1 ab false} true 0
	// true
	// {0 1 ab false} false 0
}

func ExampleTwice() {
	p, _ := post.Send(api.Post{}, api.Mail{From: 0, To: 1, Data: "ab"})
	_, e := post.Twice(p, 1)
	fmt.Println(e == api.ErrNone)
	p, e = post.Twice(p, 0)
	fmt.Println(p.Mails, e)
	// Output:
	// true
	// [{0 1 ab false} {0 1 ab false}] 0
}

func ExampleSpoil() {
	p, _ := post.Send(api.Post{}, api.Mail{From: 0, To: 1, Data: "ab"})
	_, e := post.Spoil(p, 0, 2, 1)
	_, f := post.Spoil(p, 0, 0, 0)
	fmt.Println(e == api.ErrArg, f == api.ErrArg)
	p, e = post.Spoil(p, 0, 1, 3)
	_, f = post.Spoil(p, 0, 0, 1)
	fmt.Println(p.Mails, e, f == api.ErrTwice)
	// Output:
	// true true
	// [{0 1 aa true}] 0 true
}
