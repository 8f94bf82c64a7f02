package tcp

import (
	"bytes"
	"math"
	"math/rand"
	"testing"

	"mantlet/api"
)

// The addresses of most segments here.
const (
	one = 0x0a000001
	two = 0xc0a8fe97
)

// captured is a segment that others made: the Syn of a connection from 145.254.160.237 to 65.208.228.223, with two words of options.
var captured = []byte{
	0x0d, 0x2c, 0, 0x50, 0x38, 0xaf, 0xfe, 0x13, 0, 0, 0, 0, 0x70, 0x02, 0x22, 0x38, 0xc3, 0x0c, 0, 0,
	0x02, 0x04, 0x05, 0xb4, 0x01, 0x01, 0x04, 0x02,
}

// The addresses of captured.
const (
	capturedSrc = 0x91fea0ed
	capturedDst = 0x41d0e4df
)

// slowNumber is the number in all bytes of b, most significant first.
func slowNumber(b []byte) int {
	n := 0
	for _, c := range b {
		n = 256*n + int(c)
	}
	return n
}

// slowSum is the sum with carry of the words of b; a zero byte follows an odd last one.
func slowSum(b []byte) int {
	total := 0
	for i := 0; i < len(b); i += 2 {
		total += 256 * int(b[i])
		if i+1 < len(b) {
			total += int(b[i+1])
		}
		if total > 65535 {
			total -= 65535
		}
	}
	return total
}

// slowBytes are the bytes of a number, most significant first; only the lowest ones count, also those of a negative number.
func slowBytes(n, size int) []byte {
	b := make([]byte, size)
	for i := range b {
		low := (n%256 + 256) % 256
		b[size-1-i] = byte(low)
		n = (n - low) / 256
	}
	return b
}

// slowPseudoBytes are the bytes of which Pseudo is the sum.
func slowPseudoBytes(proto uint8, src, dst uint32, n int) []byte {
	b := append(slowBytes(int(src), 4), slowBytes(int(dst), 4)...)
	b = append(b, 0, proto)
	return append(b, slowBytes(n, 2)...)
}

// slowTotal is the sum that Parse checks.
func slowTotal(src, dst uint32, b []byte) int {
	return slowSum(append(slowPseudoBytes(6, src, dst, len(b)), b...))
}

// slowSane counts flags.
func slowSane(flags int) bool {
	fin, syn, rst, ack := flags%2, flags/2%2, flags/4%2, flags/16%2
	return fin+syn+rst <= 1 && syn+rst+ack >= 1
}

// slowError goes through the errors in the order in which the document names them.
func slowError(src, dst uint32, b []byte) api.Errno {
	if len(b) < 20 {
		return api.ErrShort
	}
	words := int(b[12]) / 16
	if words < 5 {
		return api.ErrHead
	}
	if len(b) < 4*words {
		return api.ErrShort
	}
	if slowTotal(src, dst, b) != 65535 {
		return api.ErrSum
	}
	if !slowSane(int(b[13])) {
		return api.ErrFlags
	}
	return api.OK
}

// parsed is what Parse returns.
type parsed struct {
	from, to uint16
	flags    uint8
	e        api.Errno
}

// slowParse is Parse as the document defines it.
func slowParse(src, dst uint32, b []byte) parsed {
	if e := slowError(src, dst, b); e != api.OK {
		return parsed{e: e}
	}
	return parsed{uint16(slowNumber(b[:2])), uint16(slowNumber(b[2:4])), b[13] % 64, api.OK}
}

// slowBuild puts the bytes of a segment one behind the other.
func slowBuild(src, dst uint32, from, to uint16, flags uint8, b []byte) []byte {
	s := append(slowBytes(int(from), 2), slowBytes(int(to), 2)...)
	s = append(s, 0, 0, 0, 0, 0, 0, 0, 0, 80, flags, 0, 0, 0, 0, 0, 0)
	s = append(s, b...)
	mend(src, dst, s)
	return s
}

// putWord stores a number in two bytes.
func putWord(b []byte, at, n int) {
	b[at], b[at+1] = byte(n/256), byte(n%256)
}

// mend makes the checksum of b right, if b has one.
func mend(src, dst uint32, b []byte) {
	if len(b) < 18 {
		return
	}
	putWord(b, 16, 0)
	putWord(b, 16, 65535-slowTotal(src, dst, b))
}

// segment returns a segment from one to two without an error, with flags 0xd8 (Psh and Ack, and the two that are ignored):
// so many words of header, in which no field is 0, and so many bytes after it.
func segment(words, content int) []byte {
	b := make([]byte, 4*words+content)
	for i := range b {
		b[i] = byte(37*i + 11)
	}
	b[12], b[13] = byte(16*words+9), 0xd8
	mend(one, two, b)
	return b
}

// parse is Parse with its results in one value.
func parse(src, dst uint32, b []byte) parsed {
	from, to, flags, e := Parse(src, dst, b)
	return parsed{from, to, flags, e}
}

// wantParse holds Parse of b against want.
func wantParse(t *testing.T, src, dst uint32, b []byte, want parsed) {
	t.Helper()
	if got := parse(src, dst, b); got != want {
		t.Fatalf("Parse(%#x, %#x, %d bytes: %x) = %+v, want %+v", src, dst, len(b), b[:min(len(b), 60)], got, want)
	}
}

// wantError wants an error of a segment from one to two, and nothing beside it.
func wantError(t *testing.T, b []byte, e api.Errno) {
	t.Helper()
	wantParse(t, one, two, b, parsed{e: e})
}

// wantAsDefined holds Parse of b, from one to two, against the document's definition.
func wantAsDefined(t *testing.T, b []byte) {
	t.Helper()
	wantParse(t, one, two, b, slowParse(one, two, b))
}

// P5.1: the document's examples, and each condition alone.
func TestSaneKnown(t *testing.T) {
	for _, c := range []struct {
		flags uint8
		want  bool
	}{
		{api.Syn, true},
		{api.Syn | api.Ack, true},
		{api.Syn | api.Fin, false},
		{api.Fin, false},
		{0, false},
		{api.Ack, true},
		{api.Rst, true},
		{api.Rst | api.Ack, true},
		{api.Fin | api.Ack, true},
		{api.Fin | api.Ack | api.Psh | api.Urg, true},
		{api.Psh | api.Urg, false},
		{api.Fin | api.Psh | api.Urg, false},
		{api.Syn | api.Rst, false},
		{api.Fin | api.Rst, false},
		{api.Fin | api.Syn | api.Ack, false},
		{api.Fin | api.Rst | api.Ack, false},
		{api.Syn | api.Rst | api.Ack, false},
		{api.Fin | api.Syn | api.Rst | api.Ack, false},
		{64 | api.Syn, true},
		{128 | api.Ack, true},
		{64, false},
		{128, false},
		{64 | 128 | api.Fin, false},
		{255, false},
	} {
		if got := Sane(c.flags); got != c.want {
			t.Errorf("Sane(%#x) = %v", c.flags, got)
		}
	}
}

// P5.1: all flags; 64 and 128 make no difference.
func TestSaneOfAllFlags(t *testing.T) {
	sane := 0
	for flags := range 256 {
		got := Sane(uint8(flags))
		if got != slowSane(flags) || got != Sane(uint8(flags%64)) {
			t.Errorf("Sane(%#x) = %v", flags, got)
		}
		if got {
			sane++
		}
	}
	// Ack with Fin or without, Syn and Rst each with Ack or without; Psh, Urg, 64 and 128 as they like.
	if sane != 6*16 {
		t.Error(sane)
	}
}

// P5.1: sums worked out by hand.
func TestPseudoKnown(t *testing.T) {
	for _, c := range []struct {
		proto    uint8
		src, dst uint32
		n        int
		want     uint16
	}{
		{0, 0, 0, 0, 0},
		{6, 0, 0, 0, 6},
		{255, 0, 0, 0, 255},
		{0, 0x12340000, 0, 0, 0x1234},
		{0, 0x1234, 0, 0, 0x1234},
		{0, 0, 0x12340000, 0, 0x1234},
		{0, 0, 0x1234, 0, 0x1234},
		{0, 0, 0, 0x1234, 0x1234},
		{0, 0, 0, 0x56781234, 0x1234},
		{6, 0x01020304, 0x10203040, 0x500, 0x496c},
		{6, 0x0a000001, 0x0a000002, 20, 0x141d},
		{17, 0xffff0000, 1, 0x10005, 23},
		{6, 0xffffffff, 0xffffffff, 0, 6},
		{0, 0xffffffff, 0xffffffff, 0xffff, 0xffff},
		{1, 0xffffffff, 0xffffffff, 0xffff, 1},
		{0, 0, 0, -1, 0xffff},
		{0, 0, 0, -2, 0xfffe},
		{6, 0, 0, -65536, 6},
		{6, capturedSrc, capturedDst, 28, 0x59be},
	} {
		if got := Pseudo(c.proto, c.src, c.dst, c.n); got != c.want {
			t.Errorf("Pseudo(%d, %#x, %#x, %d) = %#x, want %#x", c.proto, c.src, c.dst, c.n, got, c.want)
		}
	}
}

// addresses are ones at which a byte from a wrong place or a lost carry shows.
func addresses() []uint32 {
	all := []uint32{0, 1, 0xff, 0x100, 0xffff, 0x10000, 0x01020304, 0x7fffffff, 0x80000000, 0xfffefdfc, 0xffff0000, 0xfffffffe, math.MaxUint32, one, two}
	for i := range 32 {
		all = append(all, 1<<i, ^uint32(1<<i))
	}
	return all
}

// wantPseudo holds Pseudo against the document's definition.
func wantPseudo(t *testing.T, proto uint8, src, dst uint32, n int) {
	t.Helper()
	want := slowSum(slowPseudoBytes(proto, src, dst, n))
	if got := Pseudo(proto, src, dst, n); int(got) != want {
		t.Fatalf("Pseudo(%d, %#x, %#x, %d) = %#x, want %#x", proto, src, dst, n, got, want)
	}
}

// P5.1: every protocol, with addresses and lengths that carry and that do not.
func TestPseudoOfAllProtocols(t *testing.T) {
	for proto := range 256 {
		for _, a := range []uint32{0, one, two, 0xffff0000, math.MaxUint32} {
			for _, n := range []int{-65537, -1, 0, 1, 20, 255, 256, 1480, 65535, 65536, 65537} {
				wantPseudo(t, uint8(proto), a, 0, n)
				wantPseudo(t, uint8(proto), two, a, n)
			}
		}
	}
}

// P5.1: every bit of both addresses.
func TestPseudoOfManyAddresses(t *testing.T) {
	for _, src := range addresses() {
		for _, dst := range addresses() {
			wantPseudo(t, 6, src, dst, 20)
			wantPseudo(t, 255, src, dst, 0xffee)
		}
	}
}

// P5.1: of the length the two lowest bytes count, also above 65535 and below 0.
func TestPseudoOfManyLengths(t *testing.T) {
	for n := -66000; n <= 132000; n++ {
		wantPseudo(t, 6, 0, 0, n)
	}
	for _, n := range []int{math.MinInt, math.MinInt + 1, math.MinInt + 65535, math.MinInt32, -1 << 24, 1<<24 - 1, 1 << 31, 1<<32 + 20, 1 << 62, math.MaxInt - 65536, math.MaxInt - 1, math.MaxInt} {
		wantPseudo(t, 17, one, two, n)
		wantPseudo(t, 0, 0, 0, n)
	}
	for i := range 63 {
		wantPseudo(t, 6, one, two, 1<<i)
		wantPseudo(t, 6, one, two, -1<<i)
	}
}

// P5.1: arbitrary arguments.
func TestPseudoOfArbitraryArguments(t *testing.T) {
	r := rand.New(rand.NewSource(51))
	for range 20000 {
		wantPseudo(t, uint8(r.Uint32()), r.Uint32(), r.Uint32(), int(r.Uint64()))
	}
}

// P5.2: a segment that others made.
func TestParseKnown(t *testing.T) {
	want := parsed{from: 3372, to: 80, flags: api.Syn}
	wantParse(t, capturedSrc, capturedDst, captured, want)
	for i := range captured {
		b := bytes.Clone(captured)
		b[i] ^= 1
		wantParse(t, capturedSrc, capturedDst, b, parsed{e: api.ErrSum})
	}
	wantParse(t, capturedSrc, capturedDst, captured[:27], parsed{e: api.ErrShort})
	wantParse(t, capturedSrc+1, capturedDst, captured, parsed{e: api.ErrSum})
	wantParse(t, capturedSrc, capturedDst+1, captured, parsed{e: api.ErrSum})
}

// P5.2: each result comes from its own bytes, most significant first.
func TestParseFields(t *testing.T) {
	b := []byte{0x12, 0x34, 0x56, 0x78, 9, 10, 11, 12, 13, 14, 15, 16, 0x50, 0x31, 17, 18, 0, 0, 19, 20, 21}
	mend(one, two, b)
	wantParse(t, one, two, b, parsed{0x1234, 0x5678, 0x31, api.OK})
	b = make([]byte, 20)
	b[12], b[13] = 0x50, api.Ack
	mend(one, two, b)
	wantParse(t, one, two, b, parsed{0, 0, api.Ack, api.OK})
	b = bytes.Repeat([]byte{255}, 60)
	b[13] = 0xfa
	mend(one, two, b)
	wantParse(t, one, two, b, parsed{65535, 65535, 0x3a, api.OK})
}

// P5.2: every value of every byte that is no part of the form of a segment: ports, what is ignored, options and content.
func TestParseEveryByte(t *testing.T) {
	for _, at := range []int{0, 1, 2, 3, 4, 5, 6, 7, 8, 9, 10, 11, 14, 15, 18, 19, 20, 23, 24, 27, 28, 32} {
		for c := range 256 {
			b := segment(7, 5)
			b[at] = byte(c)
			mend(one, two, b)
			want := parsed{uint16(slowNumber(b[:2])), uint16(slowNumber(b[2:4])), api.Psh | api.Ack, api.OK}
			wantParse(t, one, two, b, want)
		}
	}
}

// P5.2: all flags: those that are consistent are returned without 64 and 128.
func TestParseOfAllFlags(t *testing.T) {
	for _, c := range []struct{ words, content int }{{5, 0}, {5, 3}, {6, 8}, {15, 1}} {
		for flags := range 256 {
			b := segment(c.words, c.content)
			b[13] = byte(flags)
			mend(one, two, b)
			want := parsed{uint16(slowNumber(b[:2])), uint16(slowNumber(b[2:4])), uint8(flags % 64), api.OK}
			if !slowSane(flags) {
				want = parsed{e: api.ErrFlags}
			}
			wantParse(t, one, two, b, want)
		}
	}
}

// P5.2: every byte 12: its four lowest bits make no difference, headers of fewer than five words and of more than there are bytes are none.
func TestParseOfAllHeaderLengths(t *testing.T) {
	for _, size := range []int{20, 21, 23, 24, 25, 59, 60, 61, 64, 1480} {
		for c := range 256 {
			b := segment(5, size-20)
			b[12] = byte(c)
			mend(one, two, b)
			want := parsed{uint16(slowNumber(b[:2])), uint16(slowNumber(b[2:4])), api.Psh | api.Ack, api.OK}
			if c/16 < 5 {
				want = parsed{e: api.ErrHead}
			} else if 4*(c/16) > size {
				want = parsed{e: api.ErrShort}
			}
			wantParse(t, one, two, b, want)
		}
	}
}

// P5.2: every length of the bytes, with a checksum that is right, for each number of words of the header.
func TestParseOfAllLengths(t *testing.T) {
	for words := range 16 {
		for size := range 90 {
			b := segment(5, 90)[:size]
			if size > 12 {
				b[12] = byte(16 * words)
			}
			mend(one, two, b)
			wantAsDefined(t, b)
			if got := parse(one, two, b).e; (got == api.OK) != (words >= 5 && size >= 4*words) {
				t.Fatalf("%d words, %d bytes: %d", words, size, got)
			}
		}
	}
	for size := 20; size <= 1600; size++ {
		b := segment(5, size-20)
		if got := parse(one, two, b); got.e != api.OK {
			t.Fatalf("%d bytes: %+v", size, got)
		}
		wantAsDefined(t, b)
		wantError(t, b[:19], api.ErrShort)
		if size > 20 {
			wantAsDefined(t, b[:size-1])
		}
	}
}

// P5.2: there is no greatest length; of a length above 65535 the two lowest bytes count.
func TestParseOfLongSegments(t *testing.T) {
	for _, size := range []int{1480, 1481, 1500, 1501, 32767, 32768, 65534, 65535, 65536, 65537, 65556, 131072, 131093} {
		b := segment(5, size-20)
		wantParse(t, one, two, b, parsed{0x0b30, 0x557a, api.Psh | api.Ack, api.OK})
		b[size-1] ^= 4
		wantError(t, b, api.ErrSum)
	}
}

// P5.2: the length itself is a part of the sum, and an odd last byte is followed by a zero byte.
func TestLengthIsSummed(t *testing.T) {
	for _, content := range []int{0, 1, 2, 3, 8, 9} {
		b := segment(5, content)
		wantError(t, append(bytes.Clone(b), 0), api.ErrSum)
		wantError(t, append(bytes.Clone(b), 0, 0), api.ErrSum)
		if content > 0 {
			b[len(b)-1] = 0
			mend(one, two, b)
			wantError(t, b[:len(b)-1], api.ErrSum)
		}
	}
	b := []byte{0, 1, 0, 2, 0, 0, 0, 0, 0, 0, 0, 0, 0x50, 2, 0, 0, 0, 0, 0, 0, 0x40}
	putWord(b, 16, 65535-(0x1+0x2+0x5002+0x4000+6+21))
	wantParse(t, 0, 0, b, parsed{1, 2, api.Syn, api.OK})
}

// P5.2: each error alone, in a segment that has nothing else wrong.
func TestEachErrorOfParse(t *testing.T) {
	for i, c := range []struct {
		turn func(b []byte) []byte
		e    api.Errno
	}{
		{func(b []byte) []byte { return b }, api.OK},
		{func(b []byte) []byte { return nil }, api.ErrShort},
		{func(b []byte) []byte { return b[:0] }, api.ErrShort},
		{func(b []byte) []byte { return b[:1] }, api.ErrShort},
		{func(b []byte) []byte { return b[:19] }, api.ErrShort},
		{func(b []byte) []byte { return b[:20] }, api.OK},
		{func(b []byte) []byte { b[12] = 0x4f; return b }, api.ErrHead},
		{func(b []byte) []byte { b[12] = 0x00; return b }, api.ErrHead},
		{func(b []byte) []byte { b[12] = 0x80; return b }, api.ErrShort},
		{func(b []byte) []byte { b[12] = 0xf0; return b }, api.ErrShort},
		{func(b []byte) []byte { b[12] = 0x60; return b[:23] }, api.ErrShort},
		{func(b []byte) []byte { b[12] = 0x60; return b[:24] }, api.OK},
		{func(b []byte) []byte { b[13] = 0; return b }, api.ErrFlags},
		{func(b []byte) []byte { b[13] = api.Fin; return b }, api.ErrFlags},
		{func(b []byte) []byte { b[13] = api.Fin | api.Syn | api.Ack; return b }, api.ErrFlags},
		{func(b []byte) []byte { b[13] = api.Syn | api.Rst; return b }, api.ErrFlags},
		{func(b []byte) []byte { b[13] = 64 | 128 | api.Psh | api.Urg; return b }, api.ErrFlags},
	} {
		b := c.turn(segment(5, 11))
		mend(one, two, b)
		if got := parse(one, two, b); got.e != c.e {
			t.Errorf("case %d: %+v, want error %d", i, got, c.e)
		}
		wantAsDefined(t, b)
	}
	for at := range 31 {
		if b := segment(5, 11); at != 12 {
			b[at]++
			wantError(t, b, api.ErrSum)
		}
	}
}

// fault puts an error into a segment of five words and 11 bytes after it.
type fault struct {
	put func(b []byte) []byte
	e   api.Errno
}

var none = fault{func(b []byte) []byte { return b }, api.OK}

// faultsInOrder are the faults in the order in which the document names their errors; of a row, one can be in a segment.
func faultsInOrder() [][]fault {
	return [][]fault{
		{none, {func(b []byte) []byte { return b[:19] }, api.ErrShort}, {func(b []byte) []byte { return nil }, api.ErrShort}},
		{none, {func(b []byte) []byte { b[12] = 0x40; return b }, api.ErrHead}, {func(b []byte) []byte { b[12] = 0x80; return b }, api.ErrShort}},
		{none, {func(b []byte) []byte { b[16] ^= 1; return b }, api.ErrSum}},
		{none, {func(b []byte) []byte { b[13] = api.Fin | api.Syn; return b }, api.ErrFlags}, {func(b []byte) []byte { b[13] = 0xc0; return b }, api.ErrFlags}},
	}
}

// P5.2 and R2: of several errors the one that the document names first, for all faults that can be in a segment together.
func TestOrderOfErrorsOfParse(t *testing.T) {
	rows := faultsInOrder()
	for _, size := range rows[0] {
		for _, head := range rows[1] {
			for _, check := range rows[2] {
				for _, flags := range rows[3] {
					b := flags.put(head.put(segment(5, 11)))
					// The other faults change bytes that the checksum covers; the length is cut last.
					mend(one, two, b)
					b = size.put(check.put(b))
					want := parsed{0x0b30, 0x557a, api.Psh | api.Ack, api.OK}
					for _, f := range []fault{flags, check, head, size} {
						if f.e != api.OK {
							want = parsed{e: f.e}
						}
					}
					wantParse(t, one, two, b, want)
				}
			}
		}
	}
}

// P5.2: with other addresses than those that it was made for, a segment has a wrong sum.
func TestParseWithOtherAddresses(t *testing.T) {
	for _, content := range []int{0, 1, 100} {
		b := segment(6, content)
		for i := range 32 {
			wantParse(t, one^1<<i, two, b, parsed{e: api.ErrSum})
			wantParse(t, one, two^1<<i, b, parsed{e: api.ErrSum})
		}
		for _, a := range addresses() {
			wantParse(t, a, two, b, slowParse(a, two, b))
			wantParse(t, one, a, b, slowParse(one, a, b))
		}
		// The sum of both is the same in any order.
		wantParse(t, two, one, b, parsed{0x0b30, 0x557a, api.Psh | api.Ack, api.OK})
		wantParse(t, 0, 0, b, parsed{e: api.ErrSum})
	}
}

// P5.2: the number of the protocol in the sum is TCP's.
func TestParseSumsTheProtocol(t *testing.T) {
	for proto := range 256 {
		b := segment(5, 4)
		putWord(b, 16, 0)
		putWord(b, 16, 65535-slowSum(append(slowPseudoBytes(uint8(proto), one, two, len(b)), b...)))
		want := parsed{0x0b30, 0x557a, api.Psh | api.Ack, api.OK}
		if proto != 6 {
			want = parsed{e: api.ErrSum}
		}
		wantParse(t, one, two, b, want)
	}
}

// P5.2: each single bit of a segment turned, with a checksum that is wrong then, and with one that is right again.
func TestEachBitTurned(t *testing.T) {
	for _, c := range []struct{ words, content int }{{5, 0}, {5, 9}, {5, 300}, {6, 4}, {15, 41}} {
		for i := range 8 * (4*c.words + c.content) {
			b := segment(c.words, c.content)
			b[i/8] ^= 1 << (i % 8)
			if got := parse(one, two, b); got.e == api.OK {
				t.Fatalf("%d words, %d bytes, bit %d turned: %+v", c.words, c.content, i, got)
			}
			wantAsDefined(t, b)
			if i < 96 || i > 99 && i < 128 || i > 143 {
				mend(one, two, b)
				wantAsDefined(t, b)
			}
		}
	}
}

// P5.2: of all checksums only the right one will do, and 0 and 65535 where either is right.
func TestEveryChecksum(t *testing.T) {
	for _, content := range []int{0, 1, 2} {
		b := segment(5, content)
		right := slowNumber(b[16:18])
		for n := range 65536 {
			putWord(b, 16, n)
			if got := parse(one, two, b).e; (got == api.OK) != (n == right) || n != right && got != api.ErrSum {
				t.Fatalf("checksum %#x in place of %#x: %d", n, right, got)
			}
		}
		putWord(b, 16, 0)
		putWord(b, 4, 0)
		putWord(b, 4, 65535-slowTotal(one, two, b))
		for n := range 65536 {
			putWord(b, 16, n)
			if got := parse(one, two, b).e; (got == api.OK) != (n == 0 || n == 65535) {
				t.Fatalf("checksum %#x in place of 0 or 65535: %d", n, got)
			}
		}
	}
}

// P5.2: arbitrary bytes, many of them nearly a segment, held against the document's definition.
func TestArbitraryBytes(t *testing.T) {
	r := rand.New(rand.NewSource(52))
	seen := map[api.Errno]int{}
	for range 100000 {
		b := make([]byte, r.Intn(80))
		r.Read(b)
		src, dst := r.Uint32(), r.Uint32()
		if len(b) >= 20 && r.Intn(8) > 0 {
			b[12] = byte(16*(4+r.Intn(6)) + r.Intn(16))
			if r.Intn(4) > 0 {
				mend(src, dst, b)
			}
		}
		want := slowParse(src, dst, b)
		seen[want.e]++
		wantParse(t, src, dst, b, want)
	}
	for _, e := range []api.Errno{api.OK, api.ErrShort, api.ErrHead, api.ErrSum, api.ErrFlags} {
		if seen[e] == 0 {
			t.Errorf("error %d did not occur: %v", e, seen)
		}
	}
}

// P5.2: the length of the bytes counts, not what lies behind it in memory.
func TestParseKeepsToTheLength(t *testing.T) {
	whole := segment(15, 20)
	for size := range 60 {
		wantError(t, whole[:size:size], api.ErrShort)
		wantError(t, whole[:size], api.ErrShort)
	}
	room := append(segment(5, 3), 1, 2, 3, 4, 5, 6, 7, 8)
	wantParse(t, one, two, room[:23], parsed{0x0b30, 0x557a, api.Psh | api.Ack, api.OK})
	wantError(t, room[:24], api.ErrSum)
	room = append(segment(5, 0), 1, 2, 3, 4)
	room[12] = 0x60
	mend(one, two, room[:20])
	wantError(t, room[:20], api.ErrShort)
}

// P5.2 and R4: Parse changes neither the bytes nor what lies behind them, and nothing that is done to them later changes a result.
func TestParseChangesNothing(t *testing.T) {
	for _, size := range []int{0, 1, 19, 20, 23, 28, 60, 99} {
		room := append(segment(7, 71), bytes.Repeat([]byte{0xa7}, 30)...)
		mend(one, two, room[:size])
		before := bytes.Clone(room)
		got := parse(one, two, room[:size])
		if !bytes.Equal(room, before) {
			t.Fatalf("%d bytes: the argument has changed", size)
		}
		clear(room)
		if got != slowParse(one, two, before[:size]) {
			t.Fatalf("%d bytes: %+v", size, got)
		}
	}
}

// P5.3: segments worked out by hand.
func TestBuildKnown(t *testing.T) {
	for _, c := range []struct {
		b    []byte
		want []byte
	}{
		{nil, []byte{4, 1, 0, 80, 0, 0, 0, 0, 0, 0, 0, 0, 0x50, 0x12, 0, 0, 0x97, 0x7f, 0, 0}},
		{[]byte{}, []byte{4, 1, 0, 80, 0, 0, 0, 0, 0, 0, 0, 0, 0x50, 0x12, 0, 0, 0x97, 0x7f, 0, 0}},
		{captured[:0], []byte{4, 1, 0, 80, 0, 0, 0, 0, 0, 0, 0, 0, 0x50, 0x12, 0, 0, 0x97, 0x7f, 0, 0}},
		{[]byte{7, 8, 9}, []byte{4, 1, 0, 80, 0, 0, 0, 0, 0, 0, 0, 0, 0x50, 0x12, 0, 0, 0x87, 0x74, 0, 0, 7, 8, 9}},
	} {
		b, e := Build(0x0a000001, 0x0a000002, 1025, 80, api.Syn|api.Ack, c.b)
		if !bytes.Equal(b, c.want) || e != api.OK {
			t.Errorf("%x: %x, %d", c.b, b, e)
		}
	}
}

// wantBuild holds Build against the document's definition, and its bytes against Parse.
func wantBuild(t *testing.T, src, dst uint32, from, to uint16, flags uint8, content []byte) {
	t.Helper()
	b, e := Build(src, dst, from, to, flags, content)
	if want := slowBuild(src, dst, from, to, flags, content); !bytes.Equal(b, want) || e != api.OK {
		t.Fatalf("Build(%#x, %#x, %d, %d, %#x, %d bytes) = %x, %d, want %x", src, dst, from, to, flags, len(content), b[:min(len(b), 30)], e, want[:min(len(want), 30)])
	}
	wantParse(t, src, dst, b, parsed{from, to, flags, api.OK})
}

// wantNoSegment wants an error of Build, and no bytes.
func wantNoSegment(t *testing.T, flags uint8, size int, want api.Errno) {
	t.Helper()
	if b, e := Build(one, two, 1, 2, flags, make([]byte, size)); len(b) != 0 || e != want {
		t.Fatalf("flags %#x, %d bytes: %d bytes, %d, want %d", flags, size, len(b), e, want)
	}
}

// P5.3: all flags: only consistent ones without 64 and 128, also if the content is too long besides.
func TestBuildOfAllFlags(t *testing.T) {
	for flags := range 256 {
		if slowSane(flags) && flags < 64 {
			wantBuild(t, one, two, 0x1234, 0x5678, uint8(flags), nil)
			wantBuild(t, one, two, 0x1234, 0x5678, uint8(flags), []byte{1, 2, 3})
			wantNoSegment(t, uint8(flags), 1461, api.ErrOver)
			continue
		}
		for _, size := range []int{0, 1, 1460, 1461, 70000} {
			wantNoSegment(t, uint8(flags), size, api.ErrFlags)
		}
	}
}

// P5.3: every bit of the ports and of the addresses stands where it belongs.
func TestBuildFields(t *testing.T) {
	for i := range 16 {
		wantBuild(t, one, two, 1<<i, 0, api.Syn, []byte{7})
		wantBuild(t, one, two, 0, 1<<i, api.Syn, []byte{7})
		wantBuild(t, one, two, ^uint16(1<<i), 65535, api.Rst, nil)
		wantBuild(t, one, two, 65535, ^uint16(1<<i), api.Rst, nil)
	}
	for _, a := range addresses() {
		wantBuild(t, a, 0, 1, 2, api.Ack, []byte{1, 2})
		wantBuild(t, two, a, 1, 2, api.Ack, []byte{1, 2, 3})
	}
	wantBuild(t, 0, 0, 0, 0, api.Syn, nil)
	wantBuild(t, math.MaxUint32, math.MaxUint32, 65535, 65535, api.Fin|api.Psh|api.Ack|api.Urg, bytes.Repeat([]byte{255}, 1460))
}

// P5.3: contents of every length; from 1461 bytes on there is no segment.
func TestBuildOfAllLengths(t *testing.T) {
	content := make([]byte, 1460)
	for i := range content {
		content[i] = byte(i*i + 7)
	}
	for size := range 1461 {
		wantBuild(t, one, two, 40000, 443, api.Psh|api.Ack, content[:size])
	}
	for _, size := range []int{1461, 1462, 1472, 1480, 1481, 1500, 1501, 65515, 65516, 65535, 65536, 66996, 1 << 17} {
		wantNoSegment(t, api.Psh|api.Ack, size, api.ErrOver)
	}
}

// P5.3: the checksum makes the sum 65535; it may be 0, and then it is not 65535.
func TestBuildChecksums(t *testing.T) {
	for _, content := range [][]byte{nil, {1}, {0xff, 0xfe}} {
		zeros := 0
		for from := range 65536 {
			b, e := Build(one, two, uint16(from), 80, api.Syn, content)
			if e != api.OK || len(b) != 20+len(content) || slowTotal(one, two, b) != 65535 || slowNumber(b[16:18]) == 65535 {
				t.Fatalf("port %d: %x, %d", from, b, e)
			}
			if slowNumber(b[16:18]) == 0 {
				zeros++
			}
		}
		if zeros != 1 {
			t.Error(zeros)
		}
	}
}

// P5.3: arbitrary arguments, built and parsed again.
func TestBuildOfArbitraryArguments(t *testing.T) {
	r := rand.New(rand.NewSource(53))
	for range 20000 {
		content := make([]byte, r.Intn(50))
		r.Read(content)
		flags := uint8(r.Intn(64))
		if slowSane(int(flags)) {
			wantBuild(t, r.Uint32(), r.Uint32(), uint16(r.Uint32()), uint16(r.Uint32()), flags, content)
		}
	}
}

// fill changes every byte of b, and of what lies behind it up to its capacity.
func fill(b []byte, c byte) {
	b = b[:cap(b)]
	for i := range b {
		b[i] = c
	}
}

// P5.3 and R4: Build changes neither the content nor what lies behind it, and its result shares no memory with them or with another result.
func TestBuildSharesNothing(t *testing.T) {
	for _, size := range []int{0, 1, 8, 20, 1459, 1460} {
		room := bytes.Repeat([]byte{0x3c, 0x5d}, size+40)
		before := bytes.Clone(room)
		want := slowBuild(one, two, 5, 6, api.Rst, room[:size])
		first, _ := Build(one, two, 5, 6, api.Rst, room[:size])
		second, _ := Build(one, two, 5, 6, api.Rst, room[:size])
		if !bytes.Equal(room, before) {
			t.Fatal("the argument has changed")
		}
		fill(first, 0xee)
		if !bytes.Equal(room, before) || !bytes.Equal(second, want) {
			t.Fatal("the result is not new memory")
		}
		fill(room, 0xdd)
		if !bytes.Equal(second, want) {
			t.Fatal("the result changes with the argument")
		}
	}
}

// P5.3 and R3: an error changes nothing either.
func TestBuildErrorsChangeNothing(t *testing.T) {
	room := bytes.Repeat([]byte{0x3c, 0x5d}, 800)
	before := bytes.Clone(room)
	for _, size := range []int{0, 1, 1460, 1461, 1600} {
		Build(one, two, 5, 6, api.Fin, room[:size])
		Build(one, two, 5, 6, api.Rst|64, room[:size])
		Build(one, two, 5, 6, api.Rst, room[:max(size, 1461)])
		if !bytes.Equal(room, before) {
			t.Fatal("the argument has changed")
		}
	}
}

// R5: what was parsed and built before makes no difference.
func TestNothingIsKept(t *testing.T) {
	b := segment(6, 5)
	want := parse(one, two, b)
	for _, other := range [][]byte{nil, segment(15, 1440), segment(5, 0), make([]byte, 1461), captured} {
		Parse(two, two, other)
		Build(9, 9, 9, 9, api.Syn, other)
		Build(9, 9, 9, 9, api.Fin, other)
		Pseudo(9, 9, 9, 9)
		Sane(9)
		wantParse(t, one, two, b, want)
		wantBuild(t, one, two, 7, 8, api.Ack, b)
		wantPseudo(t, 6, one, two, 20)
	}
}
