package link_test

import (
	"fmt"
	"math"
	"math/rand"
	"slices"
	"strings"
	"testing"

	"phalanx/api"
	"phalanx/link"
	"phalanx/wire"
)

func id(slot, inc int) api.Id      { return api.Id{Slot: slot, Inc: inc} }
func texts(l ...string) []string   { return l }
func number(n int) api.Item        { return api.Item{Kind: api.IInt, N: n} }
func text(s string) api.Item       { return api.Item{Kind: api.IText, S: s} }
func row(l ...api.Item) []api.Item { return l }

// packet is one with a payload, acknowledged one without.
func packet(from, to api.Id, seq, ack int, body string) api.Packet {
	return api.Packet{From: from, To: to, Seq: seq, Ack: ack, Body: body}
}
func acknowledged(from, to api.Id, ack int) api.Packet { return packet(from, to, 0, ack, "") }

// numbers are those at which something changes, and those far off.
func numbers() []int {
	return []int{math.MinInt, math.MinInt + 1, -256, -1, 0, 1, 2, 6, 7, 8, 255, 1 << 32, math.MaxInt - 1, math.MaxInt}
}

// few are so many payloads, no two alike.
func few(count int) []string {
	l := texts()
	for i := range count {
		l = append(l, fmt.Sprintf("%c\x00%d", 'a'+i, i))
	}
	return l
}

// ends are such as New and the calls make, at all stages.
func ends() []api.Link {
	me, far := id(0, 3), api.Id{Slot: math.MaxInt, Inc: 1}
	l := []api.Link{
		link.New(me, 2), link.New(id(6, 1), 0), link.New(id(4, 1), 4), link.New(id(0, 0), 0), link.New(id(-7, math.MinInt), math.MaxInt),
		{Me: me, Peer: id(2, 0), Out: few(1), Base: 1},
		{Me: me, Peer: id(2, 0), Out: few(3), Base: 1, Age: 5},
		{Me: me, Peer: id(2, 0), Out: texts("", "", "a", "a"), Base: 1, Age: 999},
		{Me: me, Peer: id(2, 1), Base: 1},
		{Me: me, Peer: id(2, 1), Base: 7, Got: 4},
		{Me: me, Peer: id(2, 5), Out: few(1), Base: 1, Age: 1000},
		{Me: me, Peer: id(2, 5), Out: few(8), Base: 2, Got: 1, Age: 1},
		{Me: me, Peer: id(2, 5), Out: few(20), Base: 300, Got: 70000, Age: 998},
		{Me: me, Peer: id(2, math.MaxInt), Out: few(2), Base: 9, Got: 3, Age: 2},
		{Me: me, Peer: id(2, 2), Out: few(3), Base: math.MaxInt - 9, Got: math.MaxInt - 1, Age: 3},
		{Me: id(4, 1), Peer: id(4, 1), Out: few(2), Base: 3, Got: 2},
		{Me: id(-7, 2), Peer: far, Out: texts(strings.Repeat("x", 16385)), Base: 1, Got: 5, Age: 7},
	}
	return append(l, walked()...)
}

// walked are ends that calls at will have made, always the same ones.
func walked() []api.Link {
	r := rand.New(rand.NewSource(8))
	all := []api.Link{}
	for range 25 {
		l := link.New(id(0, 3), 2)
		for range 3 + r.Intn(25) {
			switch r.Intn(5) {
			case 0, 1:
				l, _, _ = link.Send(l, fmt.Sprint(r.Intn(1000)), 6)
			case 2:
				l, _ = link.Tick(l, 4)
			case 3:
				l = link.Meet(l, r.Intn(3))
			case 4:
				l, _, _, _, _ = link.Take(l, packet(l.Peer, id(0, 3), l.Got+r.Intn(2), l.Base+r.Intn(3)-1, "x"))
			}
		}
		all = append(all, l)
	}
	return all
}

// answer is what a call gives; what a call doesn't give is zero here.
type answer struct {
	link    api.Link
	packets []api.Packet
	body    string
	taken   bool
	packet  api.Packet
	sent    bool
	e       api.Errno
}

// same tells whether the ends are alike.
func same(l, m api.Link) bool {
	return l.Me == m.Me && l.Peer == m.Peer && slices.Equal(l.Out, m.Out) && l.Base == m.Base && l.Got == m.Got && l.Age == m.Age
}

// is tells whether the answers are alike.
func (a answer) is(b answer) bool {
	lists := same(a.link, b.link) && slices.Equal(a.packets, b.packets)
	return lists && a.body == b.body && a.taken == b.taken && a.packet == b.packet && a.sent == b.sent && a.e == b.e
}

// roomy gives l with an Out of its own, and room behind it that holds marks.
func roomy(l api.Link) api.Link {
	room := slices.Concat(l.Out, texts("mark", "mark", "mark"))
	l.Out = room[:len(l.Out)]
	return l
}

// asks holds what the call answers against what it should, and it to leave l as
// it is, spare room too, and to hand out no memory of it.
func asks(t *testing.T, what string, l api.Link, call func(api.Link) answer, want answer) {
	t.Helper()
	given := roomy(l)
	got := call(given)
	if !got.is(want) {
		t.Fatalf("%s of %s = %s, not %s", what, short(l), told(got), told(want))
	}
	spare := got.link.Out[:cap(got.link.Out)]
	for i := range spare {
		spare[i] = "other"
	}
	if !slices.Equal(given.Out[:len(l.Out)+3], slices.Concat(l.Out, texts("mark", "mark", "mark"))) {
		t.Fatalf("%s changes what it is given, or hands out memory of it: %s", what, short(l))
	}
	got = call(given)
	for i := range given.Out {
		given.Out[i] = "mark"
	}
	if !got.is(want) {
		t.Fatalf("%s keeps what it is given: %s", what, short(l))
	}
}

// short and told are an end and an answer in few words.
func short(l api.Link) string {
	s := fmt.Sprintf("{me %v, peer %v, base %d, got %d, age %d, out", l.Me, l.Peer, l.Base, l.Got, l.Age)
	for _, body := range l.Out {
		s += fmt.Sprintf(" %.10q", body)
	}
	return s + "}"
}

func told(a answer) string {
	s := "(" + short(a.link)
	for _, p := range append(slices.Clone(a.packets), a.packet) {
		s += fmt.Sprintf("; %v to %v, seq %d, ack %d, %.10q", p.From, p.To, p.Seq, p.Ack, p.Body)
	}
	return s + fmt.Sprintf("; %.10q, %t, %t, %d)", a.body, a.taken, a.sent, a.e)
}

// The calls, each with all but the end fixed.

func send(body string, window int) func(api.Link) answer {
	return func(l api.Link) answer {
		m, p, e := link.Send(l, body, window)
		return answer{link: m, packet: p, e: e}
	}
}

func tick(retry int) func(api.Link) answer {
	return func(l api.Link) answer {
		m, packets := link.Tick(l, retry)
		return answer{link: m, packets: packets}
	}
}

func meet(inc int) func(api.Link) answer {
	return func(l api.Link) answer { return answer{link: link.Meet(l, inc)} }
}

func take(p api.Packet) func(api.Link) answer {
	return func(l api.Link) answer {
		m, body, taken, q, sent := link.Take(l, p)
		return answer{link: m, body: body, taken: taken, packet: q, sent: sent}
	}
}

// P8.1

func TestNew(t *testing.T) {
	for _, slot := range numbers() {
		for _, own := range numbers() {
			for _, inc := range numbers() {
				got, want := link.New(id(own, inc), slot), api.Link{Me: id(own, inc), Peer: id(slot, 0), Base: 1}
				if !same(got, want) {
					t.Fatalf("New(%d.%d, %d) = %s", own, inc, slot, short(got))
				}
			}
		}
	}
}

// P8.2

// sending is Send by the chapter's words.
func sending(l api.Link, body string, window int) answer {
	ahead := len(l.Out)
	if ahead >= window {
		return answer{link: l, e: api.ErrWindow}
	}
	p := packet(l.Me, l.Peer, l.Base+ahead, l.Got, body)
	l.Out = slices.Concat(l.Out, texts(body))
	return answer{link: l, packet: p}
}

func TestSendOfAny(t *testing.T) {
	for _, l := range ends() {
		count := len(l.Out)
		for _, window := range append(numbers(), count-1, count, count+1, count+2, 3, 4, 5) {
			for _, body := range texts("", "a", "\xff\x00é", strings.Repeat("x", 16385)) {
				asks(t, fmt.Sprintf("Send(%.9q, %d)", body, window), l, send(body, window), sending(l, body, window))
			}
		}
	}
}

func TestSendKnown(t *testing.T) {
	l := api.Link{Me: id(0, 3), Peer: id(2, 5), Out: texts("a", "b"), Base: 7, Got: 4, Age: 1}
	m := l
	m.Out = texts("a", "b", "c")
	asks(t, "Send", l, send("c", 3), answer{link: m, packet: packet(id(0, 3), id(2, 5), 9, 4, "c")})
	asks(t, "Send", l, send("c", 2), answer{link: l, e: api.ErrWindow})
	asks(t, "Send", l, send("c", 1), answer{link: l, e: api.ErrWindow})
	asks(t, "Send", link.New(id(0, 3), 2), send("c", 0), answer{link: link.New(id(0, 3), 2), e: api.ErrWindow})
}

func TestSendTillTheWindowIsFull(t *testing.T) {
	for window := range 12 {
		l := link.New(id(0, 3), 2)
		for i := range window {
			m, p, e := link.Send(l, fmt.Sprint(i), window)
			if e != api.OK || p != packet(id(0, 3), id(2, 0), i+1, 0, fmt.Sprint(i)) {
				t.Fatalf("payload %d of %d: %v, %d", i, window, p, e)
			}
			l = m
		}
		asks(t, "Send", l, send("one more", window), answer{link: l, e: api.ErrWindow})
	}
}

// P8.3

// again are the packets of all of Out.
func again(l api.Link) []api.Packet {
	all := []api.Packet{}
	for i, body := range l.Out {
		all = append(all, packet(l.Me, l.Peer, l.Base+i, l.Got, body))
	}
	return all
}

// ticking is Tick by the chapter's words.
func ticking(l api.Link, retry int) answer {
	a := answer{link: l}
	switch {
	case len(l.Out) == 0:
		a.link.Age = 0
	case l.Age < 1000 && l.Age+1 < retry:
		a.link.Age++
	default:
		a.link.Age = 0
		a.packets = again(l)
	}
	return a
}

func TestTickOfAny(t *testing.T) {
	for _, l := range ends() {
		for _, age := range []int{l.Age, 0, 1, 2, 999, 1000} {
			l.Age = age
			for _, retry := range append(numbers(), age-1, age, age+1, age+2, 3, 999, 1000, 1001, 1002) {
				asks(t, fmt.Sprintf("Tick(%d)", retry), l, tick(retry), ticking(l, retry))
			}
		}
	}
}

// TestTickSendsEachTime: after so many ticks, over and over.
func TestTickSendsEachTime(t *testing.T) {
	known := []struct{ retry, ticks int }{
		{math.MinInt, 1}, {-1, 1}, {0, 1}, {1, 1}, {2, 2}, {3, 3}, {7, 7}, {999, 999}, {1000, 1000}, {1001, 1001}, {1002, 1001}, {math.MaxInt, 1001},
	}
	for _, k := range known {
		l := api.Link{Me: id(0, 3), Peer: id(2, 5), Out: texts("a", "b"), Base: 7, Got: 4}
		for i := 1; i <= 3*k.ticks; i++ {
			m, p := link.Tick(l, k.retry)
			want := []api.Packet{packet(l.Me, l.Peer, 7, 4, "a"), packet(l.Me, l.Peer, 8, 4, "b")}
			if i%k.ticks != 0 {
				want = nil
			}
			if !slices.Equal(p, want) || m.Age != i%k.ticks {
				t.Fatalf("tick %d with retry %d: %v, age %d", i, k.retry, p, m.Age)
			}
			l = m
		}
	}
}

// P8.4

// meeting is Meet by the chapter's words.
func meeting(l api.Link, inc int) api.Link {
	if inc <= l.Peer.Inc {
		return l
	}
	if l.Peer.Inc > 0 {
		return api.Link{Me: l.Me, Peer: id(l.Peer.Slot, inc), Base: 1}
	}
	return api.Link{Me: l.Me, Peer: id(l.Peer.Slot, inc), Out: l.Out, Base: l.Base}
}

func TestMeetOfAny(t *testing.T) {
	for _, l := range ends() {
		for _, inc := range append(numbers(), l.Peer.Inc-1, l.Peer.Inc, l.Peer.Inc+1, l.Peer.Inc+2, 3, 4, 5) {
			asks(t, fmt.Sprintf("Meet(%d)", inc), l, meet(inc), answer{link: meeting(l, inc)})
		}
	}
}

func TestMeetKnown(t *testing.T) {
	none := api.Link{Me: id(0, 3), Peer: id(2, 0), Out: texts("a", "b"), Base: 1, Age: 6}
	first := api.Link{Me: id(0, 3), Peer: id(2, 4), Out: texts("a", "b"), Base: 1}
	asks(t, "Meet", none, meet(4), answer{link: first})
	for _, inc := range []int{0, -1, math.MinInt} {
		asks(t, "Meet", none, meet(inc), answer{link: none})
	}
	some := api.Link{Me: id(0, 3), Peer: id(2, 4), Out: texts("a", "b"), Base: 7, Got: 9, Age: 6}
	asks(t, "Meet", some, meet(6), answer{link: api.Link{Me: id(0, 3), Peer: id(2, 6), Base: 1}})
	for _, inc := range []int{4, 3, 1, 0, -4, math.MinInt} {
		asks(t, "Meet", some, meet(inc), answer{link: some})
	}
}

// P8.5

// taking is Take by the chapter's words.
func taking(l api.Link, p api.Packet) answer {
	mine := p.To.Slot == l.Me.Slot && (p.To.Inc == 0 || p.To.Inc == l.Me.Inc)
	if !mine || p.From.Slot != l.Peer.Slot || p.From.Inc < 1 || p.From.Inc < l.Peer.Inc {
		return answer{link: l}
	}
	l = meeting(l, p.From.Inc)
	if p.To.Inc != 0 {
		for i := range l.Out {
			if l.Base+i == p.Ack {
				l = api.Link{Me: l.Me, Peer: l.Peer, Out: l.Out[i+1:], Base: p.Ack + 1, Got: l.Got}
				break
			}
		}
	}
	a := answer{link: l}
	if p.Seq < 1 {
		return a
	}
	if p.Seq-l.Got == 1 && p.To.Inc != 0 {
		a.link.Got++
		a.body, a.taken = p.Body, true
	}
	a.packet, a.sent = acknowledged(l.Me, l.Peer, a.link.Got), true
	return a
}

// near are packets that have each field about where it matters to l.
func near(l api.Link, each func(p api.Packet)) {
	ids := []api.Id{}
	for _, inc := range []int{math.MinInt, -1, 0, 1, l.Peer.Inc - 1, l.Peer.Inc, l.Peer.Inc + 1, math.MaxInt} {
		ids = append(ids, id(l.Peer.Slot, inc))
	}
	seqs := []int{math.MinInt, -1, 0, 1, 2, l.Got - 1, l.Got, l.Got + 1, l.Got + 2, math.MaxInt}
	acks := []int{math.MinInt, -1, 0, 1, 2, l.Base - 2, math.MaxInt}
	for i := range len(l.Out) + 3 {
		acks = append(acks, l.Base+i-1)
	}
	for _, from := range ids {
		for _, to := range []int{0, l.Me.Inc, l.Me.Inc + 1, l.Me.Inc - 1, -l.Me.Inc} {
			for _, seq := range seqs {
				for _, ack := range acks {
					each(packet(from, id(l.Me.Slot, to), seq, ack, "body"))
				}
			}
		}
	}
}

func TestTakeOfAny(t *testing.T) {
	for _, l := range ends() {
		near(l, func(p api.Packet) {
			asks(t, fmt.Sprintf("Take(%v)", p), l, take(p), taking(l, p))
		})
	}
}

// TestTakeOfAnotherSlot: nothing, be the packet right in all else.
func TestTakeOfAnotherSlot(t *testing.T) {
	for _, l := range ends() {
		p := packet(id(l.Peer.Slot, max(l.Peer.Inc, 1)), l.Me, l.Got+1, l.Base, "body")
		for _, off := range numbers() {
			if off == 0 {
				continue
			}
			q, r, s := p, p, p
			q.From.Slot += off
			r.To.Slot += off
			s.From.Slot, s.To.Slot = s.From.Slot+off, s.To.Slot+off
			for _, other := range []api.Packet{q, r, s} {
				asks(t, fmt.Sprintf("Take(%v)", other), l, take(other), answer{link: l})
			}
		}
		if l.Me.Slot != l.Peer.Slot {
			p.From, p.To = p.To, p.From
			asks(t, "Take of what goes the other way", l, take(p), answer{link: l})
		}
	}
}

func TestTakeKnown(t *testing.T) {
	me, peer := id(0, 3), id(2, 5)
	l := api.Link{Me: me, Peer: peer, Out: texts("a", "b", "c"), Base: 7, Got: 4, Age: 6}
	left := func(out []string, base, got, age int) api.Link {
		return api.Link{Me: me, Peer: peer, Out: out, Base: base, Got: got, Age: age}
	}
	anew := api.Link{Me: me, Peer: id(2, 6), Base: 1}
	known := []struct {
		what string
		p    api.Packet
		want answer
	}{
		{"nothing new", acknowledged(peer, me, 6), answer{link: l}},
		{"the first", acknowledged(peer, me, 7), answer{link: left(texts("b", "c"), 8, 4, 0)}},
		{"two", acknowledged(peer, me, 8), answer{link: left(texts("c"), 9, 4, 0)}},
		{"all", acknowledged(peer, me, 9), answer{link: left(nil, 10, 4, 0)}},
		{"what wasn't sent", acknowledged(peer, me, 10), answer{link: l}},
		{"to no start", acknowledged(peer, id(0, 0), 8), answer{link: l}},
		{"to another start", acknowledged(peer, id(0, 2), 8), answer{link: l}},
		{"to a later start", acknowledged(peer, id(0, 4), 8), answer{link: l}},
		{"of an elder start", acknowledged(id(2, 4), me, 8), answer{link: l}},
		{"of a later start", acknowledged(id(2, 6), me, 8), answer{link: anew}},
		{"the next", packet(peer, me, 5, 8, "x"), answer{link: left(texts("c"), 9, 5, 0), body: "x", taken: true, packet: acknowledged(me, peer, 5), sent: true}},
		{"an empty one", packet(peer, me, 5, 0, ""), answer{link: left(l.Out, 7, 5, 6), taken: true, packet: acknowledged(me, peer, 5), sent: true}},
		{"once more", packet(peer, me, 4, 0, "x"), answer{link: l, packet: acknowledged(me, peer, 4), sent: true}},
		{"behind a gap", packet(peer, me, 6, 7, "x"), answer{link: left(texts("b", "c"), 8, 4, 0), packet: acknowledged(me, peer, 4), sent: true}},
		{"the next to no start", packet(peer, id(0, 0), 5, 8, "x"), answer{link: l, packet: acknowledged(me, peer, 4), sent: true}},
		{"the next to another", packet(peer, id(0, 2), 5, 8, "x"), answer{link: l}},
		{"the next of an elder", packet(id(2, 4), me, 5, 8, "x"), answer{link: l}},
		{"the next of a later", packet(id(2, 6), me, 5, 1, "x"), answer{link: anew, packet: acknowledged(me, id(2, 6), 0), sent: true}},
		{"no number, but a body", packet(peer, me, 0, 6, "x"), answer{link: l}},
		{"below any number", packet(peer, me, -1, 6, "x"), answer{link: l}},
	}
	for _, k := range known {
		asks(t, "Take of "+k.what, l, take(k.p), k.want)
	}
	first := anew
	first.Got = 1
	asks(t, "Take of a later one's first", l, take(packet(id(2, 6), me, 1, 7, "x")),
		answer{link: first, body: "x", taken: true, packet: acknowledged(me, id(2, 6), 1), sent: true})
}

// TestTakeOfNoStart: an end doesn't meet a start that is none, known or not.
func TestTakeOfNoStart(t *testing.T) {
	l := api.Link{Me: id(0, 3), Peer: id(2, 0), Out: few(2), Base: 1, Age: 4}
	for _, inc := range []int{0, -1, math.MinInt} {
		for _, to := range []int{0, 3} {
			asks(t, "Take", l, take(packet(id(2, inc), id(0, to), 1, 1, "x")), answer{link: l})
		}
	}
	m := l
	m.Peer.Inc, m.Age = 9, 0
	asks(t, "Take", l, take(packet(id(2, 9), id(0, 0), 1, 1, "x")), answer{link: m, packet: acknowledged(id(0, 3), id(2, 9), 0), sent: true})
}

// P8.6

// may is whether p may be, by the chapter's words.
func may(p api.Packet) bool {
	slots := []int{0, 1, 2, 3, 4, 5, 6}
	if !slices.Contains(slots, p.From.Slot) || !slices.Contains(slots, p.To.Slot) {
		return false
	}
	if p.Seq == 0 && p.Body != "" {
		return false
	}
	return min(p.From.Inc-1, p.To.Inc, p.Seq, p.Ack) >= 0 && p.From.Inc != math.MinInt
}

// packets are right ones, and such with each number in each of the fields.
func packets() []api.Packet {
	all := []api.Packet{{}}
	for _, p := range []api.Packet{packet(id(0, 1), id(2, 0), 1, 0, "a"), packet(id(6, 7), id(6, 7), 9, 8, ""), acknowledged(id(3, 2), id(0, 5), 4)} {
		for _, n := range numbers() {
			for field := range 6 {
				q := p
				*[]*int{&q.From.Slot, &q.From.Inc, &q.To.Slot, &q.To.Inc, &q.Seq, &q.Ack}[field] = n
				r, s := q, q
				r.Body, s.Body = "", "\x00\xffé"
				all = append(all, q, r, s)
			}
		}
	}
	return append(all, packet(id(0, 1), id(1, 1), 1, 1, strings.Repeat("x", 20000)))
}

// items are p's, one by one.
func items(p api.Packet) []api.Item {
	return row(number(p.From.Slot), number(p.From.Inc), number(p.To.Slot), number(p.To.Inc), number(p.Seq), number(p.Ack), text(p.Body))
}

func TestItemsAndFromOfAny(t *testing.T) {
	right := 0
	for _, p := range packets() {
		got := link.Items(p)
		if !slices.Equal(got, items(p)) {
			t.Fatalf("Items(%v) = %v", p, got)
		}
		got[0], got[6] = text("x"), number(4)
		if l := link.Items(p); !slices.Equal(l, items(p)) {
			t.Fatalf("Items(%v) = %v, the second time", p, l)
		}
		from(t, items(p), p, may(p))
		if may(p) {
			right++
		}
	}
	if right < 100 || right > len(packets())/2+100 {
		t.Errorf("%d of %d packets may be", right, len(packets()))
	}
}

// from asks that From of l be p, if it is one, and that l stay as it is.
func from(t *testing.T, l []api.Item, p api.Packet, is bool) {
	t.Helper()
	if !is {
		p = api.Packet{}
	}
	given := slices.Clone(l)
	if got, found := link.From(given); got != p || found != is {
		t.Fatalf("From(%v) = %v, %t", l, got, found)
	}
	if !slices.Equal(given, l) {
		t.Fatalf("From changes %v to %v", l, given)
	}
}

func TestFromOfOtherCounts(t *testing.T) {
	for _, p := range []api.Packet{packet(id(0, 1), id(2, 0), 1, 0, "a"), acknowledged(id(3, 2), id(0, 5), 4)} {
		whole := items(p)
		from(t, whole, p, true)
		from(t, nil, p, false)
		for n := range whole {
			from(t, whole[:n], p, false)
			from(t, whole[n+1:], p, false)
			from(t, slices.Concat(whole[:n], whole[n+1:]), p, false)
			from(t, slices.Concat(whole[:n], whole[n:n+1], whole[n:]), p, false)
		}
		for _, more := range [][]api.Item{row(number(0)), row(text("")), whole} {
			from(t, slices.Concat(whole, more), p, false)
			from(t, slices.Concat(more, whole), p, false)
		}
	}
}

// TestFromOfOtherItems: of another kind, or with what their kind has none of.
func TestFromOfOtherItems(t *testing.T) {
	for _, p := range []api.Packet{packet(id(0, 1), id(2, 3), 1, 0, "a"), packet(id(1, 1), id(1, 1), 1, 1, ""), acknowledged(id(3, 2), id(0, 5), 4)} {
		for n := range 7 {
			for _, kind := range []int{0, 1, 2, -1, 256, 1 << 32, math.MinInt, math.MaxInt} {
				l := items(p)
				if l[n].Kind != kind {
					l[n].Kind = kind
					from(t, l, p, false)
				}
			}
			l := items(p)
			if n < 6 {
				l[n].S = "x"
			} else {
				l[n].N = 1
			}
			from(t, l, p, false)
		}
		l := items(p)
		l[5], l[6] = l[6], l[5]
		from(t, l, p, false)
	}
}

// P1: raw ends too are taken without a panic.

func TestRawEnds(t *testing.T) {
	for _, base := range numbers() {
		for _, n := range numbers() {
			for count := range 4 {
				l := api.Link{Me: id(0, n), Peer: id(0, base), Out: few(count), Base: base, Got: n, Age: base}
				for _, k := range numbers() {
					link.Send(l, "a", k)
					link.Tick(l, k)
					link.Meet(l, k)
					link.Take(l, packet(id(0, math.MaxInt), id(0, n), k, n, "a"))
					link.Take(l, packet(id(0, base), id(0, n), n, k, "a"))
				}
			}
		}
	}
}

// P8.7

// end is one of a channel's: what it has sent since it met the start that it
// knows (or, if it knows none, since it began), and what it has taken of that one.
type end struct {
	l        api.Link
	out, in  []string
	previous int // the start of the last one that it has taken
}

// channel is two ends in the slots 0 and 1, what is on its way between them, and
// what each node has ever sent to each other one.
type channel struct {
	t     *testing.T
	r     *rand.Rand
	ends  [2]end
	way   []api.Packet
	sent  map[[2]api.Id][]string
	count int
}

func newChannel(t *testing.T, seed int64) *channel {
	c := &channel{t: t, r: rand.New(rand.NewSource(seed)), sent: map[[2]api.Id][]string{}}
	for slot := range c.ends {
		c.ends[slot].l = link.New(id(slot, 1), 1-slot)
	}
	return c
}

// put lays packets on the way: each may be, and comes whole over the wire.
func (c *channel) put(l ...api.Packet) {
	c.t.Helper()
	for _, p := range l {
		s, e := wire.Encode(link.Items(p))
		back, f := wire.Decode(s)
		q, is := link.From(back)
		if e != api.OK || f != api.OK || !is || q != p {
			c.t.Fatalf("%v goes as %q and comes as %v, %t", p, s, q, is)
		}
		c.way = append(c.way, q)
	}
}

// changed notes what slot's end, that was as it was, has become.
func (c *channel) changed(slot int, l api.Link) {
	e := &c.ends[slot]
	before := e.l.Peer.Inc
	if l.Peer.Inc != before {
		e.in = nil
	}
	if l.Peer.Inc != before && before != 0 {
		e.out = nil
	}
	e.l = l
	if l.Peer.Inc != 0 {
		c.sent[[2]api.Id{l.Me, l.Peer}] = slices.Clone(e.out)
	}
}

func (c *channel) send(slot int) {
	e := &c.ends[slot]
	body := fmt.Sprint(c.count)
	c.count++
	l, p, err := link.Send(e.l, body, 4)
	if err == api.OK {
		e.out = append(e.out, body)
		c.put(p)
	}
	c.changed(slot, l)
}

func (c *channel) tick(slot int) {
	l, again := link.Tick(c.ends[slot].l, 3)
	c.changed(slot, l)
	c.put(again...)
}

// deliver takes one packet off the way, whichever, and hands it to its slot.
func (c *channel) deliver() {
	c.t.Helper()
	i := c.r.Intn(len(c.way))
	p := c.way[i]
	c.way = slices.Delete(c.way, i, i+1)
	slot := p.To.Slot
	l, body, taken, ack, sent := link.Take(c.ends[slot].l, p)
	c.changed(slot, l)
	if sent {
		c.put(ack)
	}
	if taken {
		c.took(slot, p.From, body)
	}
}

// took asks that what slot's end has taken be a beginning of what the sender has
// sent to it, and of no elder start than what it had taken ahead of it.
func (c *channel) took(slot int, of api.Id, body string) {
	c.t.Helper()
	e := &c.ends[slot]
	e.in = append(e.in, body)
	all := c.sent[[2]api.Id{of, e.l.Me}]
	if len(e.in) > len(all) || !slices.Equal(e.in, all[:len(e.in)]) {
		c.t.Fatalf("%v has taken %q of %v, who has sent %q", e.l.Me, e.in, of, all)
	}
	if of.Inc < e.previous || of != e.l.Peer {
		c.t.Fatalf("%v has taken of %v, behind start %d, knowing %v", e.l.Me, of, e.previous, e.l.Peer)
	}
	e.previous = of.Inc
}

// step does anything: with starts, slots may start anew, and be met.
func (c *channel) step(starts bool) {
	c.t.Helper()
	slot := c.r.Intn(2)
	what := c.r.Intn(12)
	switch {
	case what < 2:
		c.send(slot)
	case what < 4:
		c.tick(slot)
	case what == 11 && starts && c.r.Intn(4) == 0:
		c.ends[slot] = end{l: link.New(id(slot, c.ends[slot].l.Me.Inc+1), 1-slot)}
	case what == 10 && starts && c.r.Intn(4) == 0:
		c.meet(slot)
	case len(c.way) == 0:
	case what < 8:
		c.deliver()
	case what == 8:
		i := c.r.Intn(len(c.way))
		c.way = slices.Delete(c.way, i, i+1)
	case what == 9:
		c.way = append(c.way, c.way[c.r.Intn(len(c.way))])
	}
}

// meet lets slot's end hear of the other one's start, as beats do.
func (c *channel) meet(slot int) {
	c.changed(slot, link.Meet(c.ends[slot].l, c.ends[1-slot].l.Me.Inc))
}

// settle lets all packets come, and both tick, till nothing is left to be sent:
// each three ticks one payload more is taken at least, beside the first three, by
// which an end learns a start.
func (c *channel) settle() {
	c.t.Helper()
	for range 3 * (4 + 2) {
		for slot := range c.ends {
			c.tick(slot)
		}
		for len(c.way) > 0 {
			c.deliver()
		}
	}
	for slot, e := range c.ends {
		if len(e.l.Out) != 0 || !slices.Equal(e.out, c.ends[1-slot].in) {
			c.t.Fatalf("%v has sent %q, %q is left; the other has taken %q", e.l.Me, e.out, e.l.Out, c.ends[1-slot].in)
		}
	}
}

// TestWhatComesIsWhatWasSent: of two ends, and in the end all of it.
func TestWhatComesIsWhatWasSent(t *testing.T) {
	for seed := range int64(300) {
		c := newChannel(t, seed)
		for range 300 {
			c.step(false)
		}
		c.settle()
		if len(c.ends[0].in) < 5 || len(c.ends[1].in) < 5 {
			t.Fatalf("seed %d: only %q and %q were taken", seed, c.ends[0].in, c.ends[1].in)
		}
	}
}

// TestWhatComesWithStarts: the same, where slots start anew: nothing comes of an
// elder start, or for one; once both have met, all comes that was sent since.
func TestWhatComesWithStarts(t *testing.T) {
	taken, starts := 0, 0
	for seed := range int64(600) {
		c := newChannel(t, seed)
		for range 300 {
			c.step(true)
			taken += len(c.ends[0].in) + len(c.ends[1].in)
		}
		c.meet(0)
		c.meet(1)
		c.settle()
		starts += c.ends[0].l.Me.Inc + c.ends[1].l.Me.Inc
	}
	if taken == 0 || starts < 1800 {
		t.Errorf("%d taken, %d starts", taken, starts)
	}
}

// TestOneWayLearns: an end that only sends gets all across, knowing no start.
func TestOneWayLearns(t *testing.T) {
	c := newChannel(t, 1)
	for range 3 {
		c.send(0)
	}
	c.settle()
	if !slices.Equal(c.ends[1].in, texts("0", "1", "2")) || c.ends[0].l.Peer != id(1, 1) || c.ends[1].l.Peer != id(0, 1) {
		t.Errorf("%q were taken, by %s", c.ends[1].in, short(c.ends[1].l))
	}
}

// The chapter's examples.

func ExampleSend() {
	a := link.New(api.Id{Slot: 0, Inc: 1}, 2)
	a, p, _ := link.Send(a, "a", 2)
	fmt.Println(p)
	a = link.Meet(a, 1)
	a, again := link.Tick(a, 1)
	a, q, _ := link.Send(a, "b", 2)
	_, _, e := link.Send(a, "c", 2)
	fmt.Println(again, q, e == api.ErrWindow)
	// Output:
	// {{0 1} {2 0} 1 0 a}
	// [{{0 1} {2 1} 1 0 a}] {{0 1} {2 1} 2 0 b} true
}

func ExampleTake() {
	a, b := link.New(api.Id{Slot: 0, Inc: 1}, 2), link.New(api.Id{Slot: 2, Inc: 1}, 0)
	tell := func(body string, taken bool, p api.Packet, sent bool) {
		fmt.Printf("%q %t %v %t\n", body, taken, p, sent)
	}
	a, p, _ := link.Send(a, "a", 2)
	b, body, taken, ack, sent := link.Take(b, p)
	tell(body, taken, ack, sent)
	a, body, taken, none, sent := link.Take(a, ack)
	tell(body, taken, none, sent)
	fmt.Println(a.Peer.Inc, a.Out)

	a, again := link.Tick(a, 1)
	a, q, _ := link.Send(a, "b", 2)
	for _, r := range []api.Packet{q, again[0], q} {
		b, body, taken, ack, sent = link.Take(b, r)
		tell(body, taken, ack, sent)
	}
	a, _, _, _, _ = link.Take(a, ack)
	fmt.Println(a.Out, a.Base)
	// Output:
	// "" false {{2 1} {0 1} 0 0 } true
	// "" false {{0 0} {0 0} 0 0 } false
	// 1 [a]
	// "" false {{2 1} {0 1} 0 0 } true
	// "a" true {{2 1} {0 1} 0 1 } true
	// "b" true {{2 1} {0 1} 0 2 } true
	// [] 3
}

func ExampleTick() {
	a, _, _ := link.Send(link.New(api.Id{Slot: 0, Inc: 1}, 2), "a", 2)
	for range 3 {
		var again []api.Packet
		a, again = link.Tick(a, 2)
		fmt.Println(again)
	}
	// Output:
	// []
	// [{{0 1} {2 0} 1 0 a}]
	// []
}
