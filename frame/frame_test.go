package frame_test

import (
	"encoding/binary"
	"fmt"
	"hash/crc32"
	"math"
	"math/rand"
	"strings"
	"testing"

	"phalanx/api"
	"phalanx/frame"
)

// kinds are the four.
func kinds() []int { return []int{1, 2, 3, 4} }

// others are no kinds, such among them whose lowest byte is one.
func others() []int {
	l := []int{math.MinInt, -256, -255, -1, 0, 5, 6, 7, 16, 127, 128, 183, 255, 256, math.MaxInt}
	for _, k := range kinds() {
		l = append(l, -k, k+256, k-256, k+1<<16, k+1<<32, math.MinInt+k)
	}
	return l
}

// bodies are such that are no runes too, and some at the bound.
func bodies() []string {
	all := make([]byte, 256)
	for i := range all {
		all[i] = byte(i)
	}
	l := []string{"", "a", "ab", "abc", "\x00", "\x00\x00\x00\x00", "\xb7", "\xb7\x01\x00\x00", "\xff", "é", "\xc3",
		string(all), frameOf(1, ""), frameOf(4, "abc")}
	for _, size := range []int{127, 128, 254, 255, 256, 257, 511, 512, 4096, 16383, 16384} {
		l = append(l, strings.Repeat("\xff", size), strings.Repeat("\x00", size), some(size))
	}
	return l
}

// few are bodies of not too many bytes.
func few() []string {
	return []string{"", "a", "\x00", "\xff", "\xb7\x01\x00\x00", frameOf(2, "ab"), some(40), some(256), some(300)}
}

// some gives so many bytes at will, always the same ones.
func some(size int) string {
	b := make([]byte, size)
	rand.New(rand.NewSource(int64(size))).Read(b)
	return string(b)
}

// sealed gives s with its sum behind it, as the library has that.
func sealed(s string) string {
	return string(binary.LittleEndian.AppendUint32([]byte(s), crc32.ChecksumIEEE([]byte(s))))
}

// frameOf is the frame by the chapter's words, at any kind and body.
func frameOf(kind byte, body string) string {
	b := binary.BigEndian.AppendUint16([]byte{0xb7, kind}, uint16(len(body)))
	return sealed(string(b) + body)
}

// gets holds what Get answers against what it should.
func gets(t *testing.T, s string, kind int, body string, e api.Errno) {
	t.Helper()
	k, b, f := frame.Get(s)
	if k != kind || b != body || f != e {
		t.Fatalf("Get(% .40x, %d bytes) = %d, %.40q (%d bytes), %d, not %d, %.40q (%d bytes), %d",
			s, len(s), k, b, len(b), f, kind, body, len(body), e)
	}
}

// refused holds Get to the error, with nothing beside it.
func refused(t *testing.T, s string, e api.Errno) {
	t.Helper()
	gets(t, s, 0, "", e)
}

// P5.1

func TestPutKnown(t *testing.T) {
	known := []struct {
		kind int
		body string
		s    string
	}{
		{1, "", "\xb7\x01\x00\x00\x08\xc3\x23\xa0"},
		{2, "ab", "\xb7\x02\x00\x02ab\xf2\x5f\x13\x10"},
		{4, "\x00", "\xb7\x04\x00\x01\x00\x0f\x85\xbc\xf2"},
	}
	for _, k := range known {
		s, e := frame.Put(k.kind, k.body)
		if s != k.s || e != api.OK {
			t.Errorf("Put(%d, %q) = % x, %d, not % x", k.kind, k.body, s, e, k.s)
		}
	}
}

func TestPutIsAsTheWordsSay(t *testing.T) {
	for _, kind := range kinds() {
		for _, body := range bodies() {
			s, e := frame.Put(kind, body)
			if want := frameOf(byte(kind), body); s != want || e != api.OK {
				t.Fatalf("Put(%d, %d bytes) = % .20x, %d, not % .20x", kind, len(body), s, e, want)
			}
		}
	}
}

func TestPutEachLength(t *testing.T) {
	all := some(16384)
	for size := range 16385 {
		if size > 600 && size%101 > 1 && size < 16380 {
			continue
		}
		s, e := frame.Put(3, all[:size])
		if e != api.OK || len(s) != size+8 || int(s[2])*256+int(s[3]) != size || s != frameOf(3, all[:size]) {
			t.Fatalf("Put(3, %d bytes) = % .20x (%d bytes), %d", size, s, len(s), e)
		}
	}
}

func TestPutRefuses(t *testing.T) {
	for _, size := range []int{16385, 16386, 32768, 65535, 65536, 65537, 1 << 20} {
		for _, kind := range kinds() {
			if s, e := frame.Put(kind, strings.Repeat("x", size)); s != "" || e != api.ErrLong {
				t.Errorf("Put(%d, %d bytes) = % .20x, %d, not ErrLong", kind, size, s, e)
			}
		}
	}
	for _, kind := range others() {
		for _, size := range []int{0, 1, 16384, 16385, 65536} {
			if s, e := frame.Put(kind, strings.Repeat("x", size)); s != "" || e != api.ErrArg {
				t.Errorf("Put(%d, %d bytes) = % .20x, %d, not ErrArg", kind, size, s, e)
			}
		}
	}
}

func TestPutKeepsNothing(t *testing.T) {
	first, _ := frame.Put(1, "abc")
	frame.Put(2, "something else")
	frame.Put(0, "x")
	frame.Get("x")
	if again, e := frame.Put(1, "abc"); again != first || e != api.OK {
		t.Errorf("Put is % x at first, then % x, %d", first, again, e)
	}
}

// P5.2

func TestGet(t *testing.T) {
	for _, kind := range kinds() {
		for _, body := range bodies() {
			gets(t, frameOf(byte(kind), body), kind, body, api.OK)
		}
	}
}

func TestGetFewBytes(t *testing.T) {
	whole := frameOf(1, "")
	for size := range 8 {
		refused(t, whole[:size], api.ErrForm)
		refused(t, strings.Repeat("\x00", size), api.ErrForm)
		refused(t, strings.Repeat("\xb7", size), api.ErrForm)
	}
	for size := 4; size < 8; size++ {
		refused(t, sealed(whole[:size-4]), api.ErrForm)
	}
}

func TestGetBeginning(t *testing.T) {
	for first := range 256 {
		for _, body := range few() {
			s := sealed(string([]byte{byte(first)}) + frameOf(2, body)[1:len(body)+4])
			if first == 0xb7 {
				gets(t, s, 2, body, api.OK)
			} else {
				refused(t, s, api.ErrForm)
			}
		}
	}
}

func TestGetKind(t *testing.T) {
	for kind := range 256 {
		for _, body := range few() {
			s := frameOf(byte(kind), body)
			if 1 <= kind && kind <= 4 {
				gets(t, s, kind, body, api.OK)
			} else {
				refused(t, s, api.ErrForm)
			}
		}
	}
}

func TestGetLengthAboveTheBound(t *testing.T) {
	gets(t, frameOf(1, strings.Repeat("x", 16384)), 1, strings.Repeat("x", 16384), api.OK)
	for _, size := range []int{16385, 16386, 16640, 32768, 65535} {
		refused(t, frameOf(1, strings.Repeat("x", size)), api.ErrForm)
	}
	// Two bytes can't tell these.
	for _, size := range []int{65536, 65537, 65536 + 16384} {
		refused(t, frameOf(1, strings.Repeat("x", size)), api.ErrForm)
	}
}

func TestGetMoreAndFewerBytes(t *testing.T) {
	for _, body := range few() {
		s := frameOf(3, body)
		for size := range s {
			refused(t, s[:size], api.ErrForm)
		}
		refused(t, s[1:], api.ErrForm)
		for _, more := range []string{"x", "\x00", "\xb7", "\x00\x00\x00\x00", s, strings.Repeat("x", 65536)} {
			refused(t, s+more, api.ErrForm)
			if more != s {
				refused(t, more+s, api.ErrForm)
			}
		}
	}
}

func TestGetOtherLengthWithItsSum(t *testing.T) {
	for _, body := range few() {
		for _, size := range []int{0, 1, 2, 39, 41, 255, 256, 257, 299, 301, 512, 16384, 16385, 65535} {
			if size == len(body) {
				continue
			}
			b := binary.BigEndian.AppendUint16([]byte{0xb7, 1}, uint16(size))
			refused(t, sealed(string(b)+body), api.ErrForm)
		}
	}
}

func TestGetSum(t *testing.T) {
	for _, body := range few() {
		s := frameOf(4, body)
		end := len(s) - 4
		for bit := range 32 {
			b := []byte(s)
			b[end+bit/8] ^= 1 << (bit % 8)
			refused(t, string(b), api.ErrSum)
		}
		turned := []byte{s[end+3], s[end+2], s[end+1], s[end]}
		refused(t, s[:end]+string(turned), api.ErrSum)
		for i := 4; i < end; i++ {
			b := []byte(s)
			b[i] ^= 0x10
			refused(t, string(b), api.ErrSum)
		}
	}
}

// formOrSum is what a text with a wrong sum has as its error by the words, one
// by one.
func formOrSum(s string) api.Errno {
	if len(s) < 8 || s[0] != 0xb7 || s[1] == 0 || s[1] > 4 {
		return api.ErrForm
	}
	size := int(binary.BigEndian.Uint16([]byte(s[2:4])))
	if size > 16384 || len(s) != 8+size {
		return api.ErrForm
	}
	return api.ErrSum
}

func TestGetSumOfTheBodyAlone(t *testing.T) {
	// The sum is of all ahead of it, not of the body.
	for _, body := range few() {
		s := frameOf(1, body)
		refused(t, s[:4]+sealed(body), api.ErrSum)
	}
}

func TestGetFormIsAheadOfSum(t *testing.T) {
	s := []byte(frameOf(1, "abc"))
	for i := range 4 {
		for turn := 1; turn < 256; turn++ {
			b := append([]byte(nil), s...)
			b[i] ^= byte(turn)
			refused(t, string(b), formOrSum(string(b)))
			b[len(b)-1] ^= 1
			refused(t, string(b), formOrSum(string(b)))
		}
	}
}

func TestGetAnyBytes(t *testing.T) {
	r := rand.New(rand.NewSource(5))
	for range 20000 {
		b := make([]byte, r.Intn(40))
		r.Read(b)
		for i, like := range []int{0xb7, 1 + r.Intn(4), 0, len(b) - 8} {
			if i < len(b) && r.Intn(8) > 0 {
				b[i] = byte(like)
			}
		}
		refused(t, string(b), formOrSum(string(b)))
	}
}

// P5.3

func TestGetOfPut(t *testing.T) {
	r := rand.New(rand.NewSource(53))
	for i := range 2000 {
		kind := 1 + r.Intn(4)
		body := make([]byte, r.Intn(64))
		if i%40 == 0 {
			body = make([]byte, r.Intn(16385))
		}
		r.Read(body)
		s, e := frame.Put(kind, string(body))
		if e != api.OK {
			t.Fatalf("Put(%d, %d bytes) = %d", kind, len(body), e)
		}
		gets(t, s, kind, string(body), api.OK)
	}
}

func TestTurnedNeighboursAreRefused(t *testing.T) {
	r := rand.New(rand.NewSource(54))
	for _, body := range few() {
		s, _ := frame.Put(2, body)
		for at := 0; at+4 <= len(s); at++ {
			for _, turn := range turns(r) {
				b := []byte(s)
				binary.BigEndian.PutUint32(b[at:], binary.BigEndian.Uint32(b[at:])^turn)
				refused(t, string(b), formOrSum(string(b)))
			}
		}
	}
}

// turns are bits of four bytes that may be turned, each alone and many.
func turns(r *rand.Rand) []uint32 {
	l := []uint32{0xffffffff, 0xff, 0xff00, 0xff0000, 0xff000000, 0x80000001, 0xedb88320, 0x04c11db7}
	for i := range 32 {
		l = append(l, 1<<i)
	}
	for range 20 {
		l = append(l, r.Uint32()|1)
	}
	return l
}

func ExamplePut() {
	s, e := frame.Put(1, "")
	fmt.Printf("% x %d\n", s[:4], e)
	_, e = frame.Put(5, "x")
	_, f := frame.Put(0, "x")
	fmt.Println(e == api.ErrArg, f == api.ErrArg)
	// Output:
	// b7 01 00 00 0
	// true true
}

func ExampleGet() {
	s, _ := frame.Put(1, "")
	kind, _, _ := frame.Get(s)
	_, _, e := frame.Get(s[:7] + string([]byte{^s[7]}))
	_, _, f := frame.Get(s + "x")
	_, _, g := frame.Get(s[:7])
	fmt.Println(kind, e == api.ErrSum, f == api.ErrForm, g == api.ErrForm)
	// Output:
	// 1 true true true
}
