package udp

import (
	"bytes"
	"math"
	"math/rand"
	"testing"

	"mantlet/api"
)

// The addresses of most datagrams here.
const (
	one = 0x0a000001
	two = 0xc0a8fe97
)

// The addresses of captured.
const (
	capturedSrc = 0
	capturedDst = math.MaxUint32
)

// captured returns a datagram that others made: a DHCP Discover, sent from 0.0.0.0 to 255.255.255.255.
func captured() []byte {
	b := []byte{0, 68, 0, 67, 0x01, 0x18, 0x59, 0x1f, 1, 1, 6, 0, 0, 0, 0x3d, 0x1d}
	b = append(b, make([]byte, 20)...)
	b = append(b, 0x00, 0x0b, 0x82, 0x01, 0xfc, 0x42)
	b = append(b, make([]byte, 202)...)
	b = append(b, 0x63, 0x82, 0x53, 0x63, 0x35, 1, 1, 0x3d, 7, 1, 0x00, 0x0b, 0x82, 0x01, 0xfc, 0x42)
	b = append(b, 0x32, 4, 0, 0, 0, 0, 0x37, 4, 1, 3, 6, 42, 0xff)
	return append(b, make([]byte, 7)...)
}

// slowNumber is the number in all bytes of b, most significant first.
func slowNumber(b []byte) int {
	n := 0
	for _, c := range b {
		n = 256*n + int(c)
	}
	return n
}

// slowBytes are the lowest bytes of a number, most significant first.
func slowBytes(n, size int) []byte {
	b := make([]byte, size)
	for i := range b {
		b[size-1-i] = byte(n % 256)
		n /= 256
	}
	return b
}

// slowSum is the sum with carry of the words of b; a zero byte follows an odd last one.
func slowSum(b []byte) int {
	total := 0
	for i := 0; i < len(b); i += 2 {
		total += 256 * int(b[i])
		if i+1 < len(b) {
			total += int(b[i+1])
		}
		if total > 65535 {
			total -= 65535
		}
	}
	return total
}

// slowTotalAs is the sum of b and of its pseudo header, with any number for the protocol.
func slowTotalAs(proto byte, src, dst uint32, b []byte) int {
	all := append(slowBytes(int(src), 4), slowBytes(int(dst), 4)...)
	all = append(all, 0, proto)
	all = append(all, slowBytes(len(b), 2)...)
	return slowSum(append(all, b...))
}

// slowTotal is the sum that Parse checks.
func slowTotal(src, dst uint32, b []byte) int {
	return slowTotalAs(17, src, dst, b)
}

// slowError goes through the errors in the order in which the document names them.
func slowError(src, dst uint32, b []byte) api.Errno {
	if len(b) < 8 {
		return api.ErrShort
	}
	size := slowNumber(b[4:6])
	if size < 8 {
		return api.ErrHead
	}
	if len(b) < size {
		return api.ErrShort
	}
	if slowNumber(b[6:8]) != 0 && slowTotal(src, dst, b[:size]) != 65535 {
		return api.ErrSum
	}
	return api.OK
}

// parsed is what Parse returns.
type parsed struct {
	from, to uint16
	e        api.Errno
}

// ports are the results for a datagram without an error, as its first bytes say.
func ports(b []byte) parsed {
	return parsed{uint16(slowNumber(b[:2])), uint16(slowNumber(b[2:4])), api.OK}
}

// slowParse is Parse as the document defines it.
func slowParse(src, dst uint32, b []byte) parsed {
	if e := slowError(src, dst, b); e != api.OK {
		return parsed{e: e}
	}
	return ports(b)
}

// slowBuild puts the bytes of a datagram one behind the other.
func slowBuild(src, dst uint32, from, to uint16, b []byte) []byte {
	d := append(slowBytes(int(from), 2), slowBytes(int(to), 2)...)
	d = append(d, slowBytes(8+len(b), 2)...)
	d = append(d, 0, 0)
	d = append(d, b...)
	mend(src, dst, d)
	return d
}

// putWord stores a number in two bytes.
func putWord(b []byte, at, n int) {
	b[at], b[at+1] = byte(n/256), byte(n%256)
}

// mend makes the checksum of b right, for as many bytes as b says, or for all if it says fewer than 8 or more than there are.
func mend(src, dst uint32, b []byte) {
	if len(b) < 8 {
		return
	}
	size := slowNumber(b[4:6])
	if size < 8 || size > len(b) {
		size = len(b)
	}
	putWord(b, 6, 0)
	c := 65535 - slowTotal(src, dst, b[:size])
	if c == 0 {
		c = 65535
	}
	putWord(b, 6, c)
}

// datagram returns a datagram from one to two without an error, with so many bytes of content and so many behind its end, none of which are alike.
func datagram(content, behind int) []byte {
	b := make([]byte, 8+content+behind)
	for i := range b {
		b[i] = byte(37*i + 11)
	}
	putWord(b, 4, 8+content)
	mend(one, two, b)
	return b
}

// fromTo are the results for each of datagram's.
var fromTo = parsed{0x0b30, 0x557a, api.OK}

// parse is Parse with its results in one value.
func parse(src, dst uint32, b []byte) parsed {
	from, to, e := Parse(src, dst, b)
	return parsed{from, to, e}
}

// wantParse holds Parse of b against want.
func wantParse(t *testing.T, src, dst uint32, b []byte, want parsed) {
	t.Helper()
	if got := parse(src, dst, b); got != want {
		t.Fatalf("Parse(%#x, %#x, %d bytes: %x) = %+v, want %+v", src, dst, len(b), b[:min(len(b), 60)], got, want)
	}
}

// wantError wants an error of a datagram from one to two, and nothing beside it.
func wantError(t *testing.T, b []byte, e api.Errno) {
	t.Helper()
	wantParse(t, one, two, b, parsed{e: e})
}

// wantAsDefined holds Parse of b, from one to two, against the document's definition.
func wantAsDefined(t *testing.T, b []byte) {
	t.Helper()
	wantParse(t, one, two, b, slowParse(one, two, b))
}

// P6.1: a datagram that others made.
func TestParseKnown(t *testing.T) {
	b := captured()
	wantParse(t, capturedSrc, capturedDst, b, parsed{68, 67, api.OK})
	for i := range b {
		b[i] ^= 1
		want := parsed{e: api.ErrSum}
		if i == 5 { // it says one byte more than there are
			want = parsed{e: api.ErrShort}
		}
		wantParse(t, capturedSrc, capturedDst, b, want)
		b[i] ^= 1
	}
	wantParse(t, capturedSrc, capturedDst, b[:279], parsed{e: api.ErrShort})
	wantParse(t, capturedSrc+1, capturedDst, b, parsed{e: api.ErrSum})
	wantParse(t, capturedSrc, capturedDst-1, b, parsed{e: api.ErrSum})
}

// P6.1: each port comes from its own bytes, most significant first.
func TestParseFields(t *testing.T) {
	for _, c := range []struct {
		b    []byte
		want parsed
	}{
		{[]byte{0x12, 0x34, 0x56, 0x78, 0, 8, 0, 0}, parsed{0x1234, 0x5678, api.OK}},
		{[]byte{0, 0, 0, 0, 0, 8, 0, 0}, parsed{0, 0, api.OK}},
		{[]byte{255, 255, 255, 255, 0, 9, 0, 0, 255}, parsed{65535, 65535, api.OK}},
		{[]byte{255, 0, 0, 255, 0, 10, 0, 0, 1, 2}, parsed{0xff00, 0x00ff, api.OK}},
		{[]byte{0, 255, 255, 0, 0, 8, 0, 0, 3, 4}, parsed{0x00ff, 0xff00, api.OK}},
	} {
		wantParse(t, one, two, c.b, c.want)
		mend(one, two, c.b)
		wantParse(t, one, two, c.b, c.want)
	}
	for i := range 16 {
		b := datagram(3, 0)
		putWord(b, 0, 1<<i)
		putWord(b, 2, 65535-1<<i)
		mend(one, two, b)
		wantParse(t, one, two, b, parsed{1 << i, ^uint16(1 << i), api.OK})
	}
}

// P6.1: every value of every byte of the ports, of the content and behind the end.
func TestParseEveryByte(t *testing.T) {
	for _, content := range []int{4, 5} {
		for _, at := range []int{0, 1, 2, 3, 8, 9, 10, 11, 12, 13, 14} {
			for c := range 256 {
				b := datagram(content, 3)
				b[at] = byte(c)
				mend(one, two, b)
				wantParse(t, one, two, b, ports(b))
			}
		}
	}
}

// P6.1: every number of bytes with every length field around it, with a checksum that is right, that is wrong, and without one.
func TestParseOfAllLengths(t *testing.T) {
	for size := range 60 {
		for said := range 70 {
			b := datagram(60, 0)[:size]
			if size >= 8 {
				putWord(b, 4, said)
			}
			mend(one, two, b)
			want := parsed{e: api.ErrShort}
			if size >= 8 && said < 8 {
				want.e = api.ErrHead
			} else if size >= 8 && said <= size {
				want = fromTo
			}
			wantParse(t, one, two, b, want)
			if size >= 8 {
				putWord(b, 6, 0)
				wantParse(t, one, two, b, want)
			}
			if want.e == api.OK {
				putWord(b, 6, 65535)
				wantError(t, b, api.ErrSum)
			}
		}
	}
}

// P6.1: the edges of the length field.
func TestParseOfEdgesOfTheLength(t *testing.T) {
	for _, size := range []int{9, 10, 11, 255, 256, 257, 1472, 1480, 1481, 1500, 1501} {
		for _, c := range []struct {
			said int
			e    api.Errno
		}{
			{0, api.ErrHead}, {1, api.ErrHead}, {7, api.ErrHead}, {8, api.OK}, {size - 1, api.OK}, {size, api.OK},
			{size + 1, api.ErrShort}, {size + 256, api.ErrShort}, {size + 32768, api.ErrShort}, {65535, api.ErrShort},
		} {
			b := datagram(size-8, 0)
			putWord(b, 4, c.said)
			mend(one, two, b)
			want := parsed{e: c.e}
			if c.e == api.OK {
				want = fromTo
			}
			wantParse(t, one, two, b, want)
			putWord(b, 6, 0)
			wantParse(t, one, two, b, want)
		}
	}
}

// P6.1: the length field alone says how many bytes are summed, up to 65535 of them, however many there are.
func TestParseOfLongDatagrams(t *testing.T) {
	for _, said := range []int{8, 9, 1480, 1481, 1500, 1501, 32767, 32768, 65534, 65535} {
		for _, behind := range []int{0, 1, 2, 1500, 65536, 65537, 70001} {
			b := datagram(said-8, behind)
			wantParse(t, one, two, b, fromTo)
			b[said-1] ^= 2
			want := slowParse(one, two, b)
			if said > 8 {
				want = parsed{e: api.ErrSum}
			}
			wantParse(t, one, two, b, want)
			wantError(t, b[:said-1], api.ErrShort)
		}
	}
}

// P6.1: bytes behind the end are ignored, whatever they are, also beside an odd last byte.
func TestBytesBehindTheEnd(t *testing.T) {
	for content := range 20 {
		for behind := range 20 {
			for _, c := range []byte{0, 1, 0x80, 0xff} {
				b := append(datagram(content, 0), bytes.Repeat([]byte{c}, behind)...)
				wantParse(t, one, two, b, fromTo)
				b[7]++
				wantError(t, b, api.ErrSum)
			}
		}
	}
	for i := range 8 * 6 {
		b := datagram(5, 6)
		b[13+i/8] ^= 1 << (i % 8)
		wantParse(t, one, two, b, fromTo)
	}
}

// P6.1: the length itself is a part of the sum, both times, and an odd last byte is followed by a zero byte.
func TestLengthIsSummed(t *testing.T) {
	for content := 1; content < 12; content++ {
		b := datagram(content, 0)
		b[len(b)-1] = 0
		mend(one, two, b)
		wantParse(t, one, two, b, fromTo)
		putWord(b, 4, len(b)-1)
		wantError(t, b, api.ErrSum)
		wantError(t, b[:len(b)-1], api.ErrSum)
		b = append(datagram(content, 0), 0)
		putWord(b, 4, len(b))
		wantError(t, b, api.ErrSum)
	}
	b := []byte{0, 1, 0, 2, 0, 9, 0, 0, 0x40}
	putWord(b, 6, 65535-(1+2+9+0x4000+17+9))
	wantParse(t, 0, 0, b, parsed{1, 2, api.OK})
	b = []byte{0, 1, 0, 2, 0, 10, 0, 0, 0x40, 5}
	putWord(b, 6, 65535-(1+2+10+0x4005+17+10))
	wantParse(t, 0, 0, b, parsed{1, 2, api.OK})
}

// P6.1: without a checksum whatever is long enough is accepted, and nothing else.
func TestParseWithoutChecksum(t *testing.T) {
	for _, a := range addresses() {
		for content := range 6 {
			for behind := range 3 {
				b := datagram(content, behind)
				putWord(b, 6, 0)
				wantParse(t, a, two, b, fromTo)
				wantParse(t, one, a, b, fromTo)
			}
		}
	}
	for i := range 8 * 19 {
		b := datagram(9, 2)
		putWord(b, 6, 0)
		b[i/8] ^= 1 << (i % 8)
		want := ports(b)
		said := slowNumber(b[4:6])
		switch {
		case said < 8:
			want = parsed{e: api.ErrHead}
		case said > 19:
			want = parsed{e: api.ErrShort}
		case i/8 == 6, i/8 == 7:
			want = parsed{e: api.ErrSum}
		}
		wantParse(t, one, two, b, want)
	}
	b := make([]byte, 20)
	for size := range 21 {
		want := parsed{e: api.ErrHead}
		if size < 8 {
			want.e = api.ErrShort
		}
		wantParse(t, 0, 0, b[:size], want)
	}
}

// P6.1: both bytes of a checksum count when it is asked whether there is one.
func TestHalfAChecksum(t *testing.T) {
	for _, c := range []int{1, 0x80, 0xff, 0x100, 0x8000, 0xff00} {
		b := datagram(4, 0)
		putWord(b, 6, c)
		wantError(t, b, api.ErrSum)
		putWord(b, 8, 0)
		putWord(b, 8, 65535-slowTotal(one, two, b))
		wantParse(t, one, two, b, fromTo)
	}
}

// P6.1: each error alone, in a datagram that has nothing else wrong.
func TestEachErrorOfParse(t *testing.T) {
	for i, c := range []struct {
		turn func(b []byte) []byte
		e    api.Errno
	}{
		{func(b []byte) []byte { return b }, api.OK},
		{func(b []byte) []byte { return nil }, api.ErrShort},
		{func(b []byte) []byte { return []byte{} }, api.ErrShort},
		{func(b []byte) []byte { return b[:0] }, api.ErrShort},
		{func(b []byte) []byte { return b[:1] }, api.ErrShort},
		{func(b []byte) []byte { return b[:7] }, api.ErrShort},
		{func(b []byte) []byte { return b[:8] }, api.ErrShort},
		{func(b []byte) []byte { return b[:len(b)-1] }, api.ErrShort},
		{func(b []byte) []byte { putWord(b, 4, len(b)+1); mend(one, two, b); return b }, api.ErrShort},
		{func(b []byte) []byte { putWord(b, 4, 0); mend(one, two, b); return b }, api.ErrHead},
		{func(b []byte) []byte { putWord(b, 4, 7); mend(one, two, b); return b }, api.ErrHead},
		{func(b []byte) []byte { b[0]++; return b }, api.ErrSum},
		{func(b []byte) []byte { b[3]++; return b }, api.ErrSum},
		{func(b []byte) []byte { b[7]++; return b }, api.ErrSum},
		{func(b []byte) []byte { b[8]++; return b }, api.ErrSum},
		{func(b []byte) []byte { b[len(b)-1]--; return b }, api.ErrSum},
		{func(b []byte) []byte { putWord(b, 6, 65535); return b }, api.ErrSum},
		{func(b []byte) []byte { putWord(b, 4, len(b)-2); return b }, api.ErrSum},
		{func(b []byte) []byte { putWord(b, 6, 0); return b }, api.OK},
		{func(b []byte) []byte { return append(b, 5) }, api.OK},
		{func(b []byte) []byte { putWord(b, 4, 8); mend(one, two, b); return b }, api.OK},
	} {
		for _, content := range []int{12, 13} {
			want := parsed{e: c.e}
			if c.e == api.OK {
				want = fromTo
			}
			if got := parse(one, two, c.turn(datagram(content, 0))); got != want {
				t.Errorf("%d: %+v, want %+v", i, got, want)
			}
		}
	}
}

// P6.1 and R2: of several errors, the one that the chapter names first.
func TestOrderOfErrorsOfParse(t *testing.T) {
	for i, c := range []struct {
		b []byte
		e api.Errno
	}{
		// Fewer than 8 bytes, which also say fewer than 8, or more.
		{[]byte{1, 2, 3, 4, 0, 0}, api.ErrShort},
		{[]byte{1, 2, 3, 4, 0, 7, 1}, api.ErrShort},
		{[]byte{1, 2, 3, 4, 255, 255, 1}, api.ErrShort},
		// A length below 8, and a wrong checksum, or none.
		{[]byte{1, 2, 3, 4, 0, 7, 1, 1}, api.ErrHead},
		{[]byte{1, 2, 3, 4, 0, 0, 1, 1, 5, 6}, api.ErrHead},
		{[]byte{1, 2, 3, 4, 0, 7, 0, 0}, api.ErrHead},
		// Fewer bytes than the length, and a wrong checksum, or none.
		{[]byte{1, 2, 3, 4, 0, 9, 1, 1}, api.ErrShort},
		{[]byte{1, 2, 3, 4, 0, 12, 1, 1, 5, 6, 7}, api.ErrShort},
		{[]byte{1, 2, 3, 4, 0, 9, 0, 0}, api.ErrShort},
		{[]byte{1, 2, 3, 4, 255, 255, 0, 0}, api.ErrShort},
		// A wrong checksum alone.
		{[]byte{1, 2, 3, 4, 0, 8, 1, 1}, api.ErrSum},
	} {
		if got := parse(one, two, c.b); got != (parsed{e: c.e}) {
			t.Errorf("%d: %+v", i, got)
		}
	}
}

// addresses are ones at which a byte from a wrong place or a lost carry shows.
func addresses() []uint32 {
	all := []uint32{0, 1, 0xff, 0x100, 0xffff, 0x10000, 0x01020304, 0x7fffffff, 0x80000000, 0xfffefdfc, 0xffff0000, 0xfffffffe, math.MaxUint32, one, two}
	for i := range 32 {
		all = append(all, 1<<i, ^uint32(1<<i))
	}
	return all
}

// P6.1: a datagram is right only between addresses for which its checksum was made.
func TestParseWithOtherAddresses(t *testing.T) {
	for _, content := range []int{0, 1, 100} {
		b := datagram(content, 0)
		for i := range 32 {
			wantParse(t, one^1<<i, two, b, parsed{e: api.ErrSum})
			wantParse(t, one, two^1<<i, b, parsed{e: api.ErrSum})
		}
		for _, a := range addresses() {
			wantParse(t, a, two, b, slowParse(a, two, b))
			wantParse(t, one, a, b, slowParse(one, a, b))
		}
		// The sum of both is the same in any order.
		wantParse(t, two, one, b, fromTo)
		wantParse(t, 0, 0, b, parsed{e: api.ErrSum})
	}
}

// P6.1: the number of the protocol in the sum is UDP's.
func TestParseSumsTheProtocol(t *testing.T) {
	for proto := range 256 {
		b := datagram(4, 0)
		putWord(b, 6, 0)
		putWord(b, 6, 65535-slowTotalAs(byte(proto), one, two, b))
		want := parsed{e: api.ErrSum}
		if proto == 17 {
			want = fromTo
		}
		wantParse(t, one, two, b, want)
	}
}

// P6.1: each single bit of the ports and of the content turned, with a checksum that is wrong then, with one that is right again, and without one.
func TestEachBitTurned(t *testing.T) {
	for _, content := range []int{0, 1, 2, 9, 300} {
		for i := range 8 * (8 + content) {
			if i/8 >= 4 && i/8 < 8 {
				continue
			}
			b := datagram(content, 2)
			b[i/8] ^= 1 << (i % 8)
			wantError(t, b, api.ErrSum)
			mend(one, two, b)
			wantParse(t, one, two, b, ports(b))
			putWord(b, 6, 0)
			wantParse(t, one, two, b, ports(b))
		}
	}
}

// P6.1: each single bit of the length and of the checksum turned.
func TestEachBitOfLengthAndChecksumTurned(t *testing.T) {
	for _, content := range []int{0, 1, 8, 9, 300} {
		for _, behind := range []int{0, 1, 600} {
			for i := range 32 {
				b := datagram(content, behind)
				b[4+i/8] ^= 1 << (i % 8)
				if i >= 16 {
					wantError(t, b, api.ErrSum)
				}
				wantAsDefined(t, b)
				mend(one, two, b)
				wantAsDefined(t, b)
			}
		}
	}
}

// P6.1: of all checksums only the right one and 0 will do; 65535 where the sum of all else is 65535.
func TestEveryChecksum(t *testing.T) {
	for _, content := range []int{0, 1, 2} {
		b := datagram(content, 1)
		right := slowNumber(b[6:8])
		for range 2 {
			for n := range 65536 {
				putWord(b, 6, n)
				want := parsed{e: api.ErrSum}
				if n == 0 || n == right {
					want = ports(b)
				}
				wantParse(t, one, two, b, want)
			}
			putWord(b, 6, 0)
			putWord(b, 0, 0)
			putWord(b, 0, 65535-slowTotal(one, two, b[:8+content]))
			right = 65535
		}
	}
}

// P6.1: arbitrary bytes, many of them nearly a datagram, held against the document's definition.
func TestArbitraryBytes(t *testing.T) {
	r := rand.New(rand.NewSource(61))
	seen := map[api.Errno]int{}
	for range 100000 {
		b := make([]byte, r.Intn(40))
		r.Read(b)
		src, dst := r.Uint32(), r.Uint32()
		if len(b) >= 8 && r.Intn(8) > 0 {
			putWord(b, 4, r.Intn(len(b)+6))
			if r.Intn(4) > 0 {
				mend(src, dst, b)
			} else if r.Intn(3) == 0 {
				putWord(b, 6, 0)
			}
		}
		want := slowParse(src, dst, b)
		seen[want.e]++
		wantParse(t, src, dst, b, want)
	}
	for _, e := range []api.Errno{api.OK, api.ErrShort, api.ErrHead, api.ErrSum} {
		if seen[e] == 0 {
			t.Errorf("error %d did not occur: %v", e, seen)
		}
	}
}

// P6.1: the length of the bytes counts, not what lies behind it in memory.
func TestParseKeepsToTheLength(t *testing.T) {
	whole := datagram(30, 10)
	for size := range 38 {
		wantError(t, whole[:size:size], api.ErrShort)
		wantError(t, whole[:size], api.ErrShort)
	}
	for size := 38; size <= 48; size++ {
		wantParse(t, one, two, whole[:size:size], fromTo)
		wantParse(t, one, two, whole[:size], fromTo)
	}
}

// P6.1 and R4: Parse changes neither the bytes nor what lies behind them, and nothing that is done to them later changes a result.
func TestParseChangesNothing(t *testing.T) {
	for _, size := range []int{0, 1, 7, 8, 9, 50, 99, 100, 109, 110} {
		for _, said := range []int{0, 8, 9, 50, 100} {
			for _, sum := range []int{0, 1, -1} {
				room := datagram(100, 40)
				putWord(room, 4, said)
				mend(one, two, room)
				if sum >= 0 {
					putWord(room, 6, sum)
				}
				before := bytes.Clone(room)
				got := parse(one, two, room[:size])
				if !bytes.Equal(room, before) {
					t.Fatalf("%d bytes: the argument has changed", size)
				}
				clear(room)
				if got != slowParse(one, two, before[:size]) {
					t.Fatalf("%d bytes: %+v", size, got)
				}
			}
		}
	}
}

// P6.2: datagrams worked out by hand.
func TestBuildKnown(t *testing.T) {
	for _, c := range []struct {
		b    []byte
		want []byte
	}{
		{nil, []byte{4, 1, 0, 53, 0, 8, 0xe7, 0xa5}},
		{[]byte{}, []byte{4, 1, 0, 53, 0, 8, 0xe7, 0xa5}},
		{captured()[:0], []byte{4, 1, 0, 53, 0, 8, 0xe7, 0xa5}},
		{[]byte{7, 8, 9}, []byte{4, 1, 0, 53, 0, 11, 0xd7, 0x97, 7, 8, 9}},
		{[]byte{7, 8, 9, 1}, []byte{4, 1, 0, 53, 0, 12, 0xd7, 0x94, 7, 8, 9, 1}},
	} {
		b, e := Build(0x0a000001, 0x0a000002, 1025, 53, c.b)
		if !bytes.Equal(b, c.want) || e != api.OK {
			t.Errorf("%x: %x, %d", c.b, b, e)
		}
	}
	if b, e := Build(capturedSrc, capturedDst, 68, 67, captured()[8:]); !bytes.Equal(b, captured()) || e != api.OK {
		t.Errorf("%x, %d", b, e)
	}
}

// wantBuild holds Build against the document's definition, and its bytes against Parse.
func wantBuild(t *testing.T, src, dst uint32, from, to uint16, content []byte) {
	t.Helper()
	b, e := Build(src, dst, from, to, content)
	if want := slowBuild(src, dst, from, to, content); !bytes.Equal(b, want) || e != api.OK {
		t.Fatalf("Build(%#x, %#x, %d, %d, %d bytes) = %x, %d, want %x", src, dst, from, to, len(content), b[:min(len(b), 30)], e, want[:min(len(want), 30)])
	}
	wantParse(t, src, dst, b, parsed{from, to, api.OK})
}

// P6.2: every bit of the ports and of the addresses stands where it belongs.
func TestBuildFields(t *testing.T) {
	for i := range 16 {
		wantBuild(t, one, two, 1<<i, 0, []byte{7})
		wantBuild(t, one, two, 0, 1<<i, []byte{7})
		wantBuild(t, one, two, ^uint16(1<<i), 65535, nil)
		wantBuild(t, one, two, 65535, ^uint16(1<<i), nil)
	}
	for _, a := range addresses() {
		wantBuild(t, a, 0, 1, 2, []byte{1, 2})
		wantBuild(t, two, a, 1, 2, []byte{1, 2, 3})
	}
	wantBuild(t, 0, 0, 0, 0, nil)
	wantBuild(t, math.MaxUint32, math.MaxUint32, 65535, 65535, bytes.Repeat([]byte{255}, 1472))
}

// P6.2: contents of every length; from 1473 bytes on there is no datagram.
func TestBuildOfAllLengths(t *testing.T) {
	content := make([]byte, 1472)
	for i := range content {
		content[i] = byte(i*i + 7)
	}
	for size := range 1473 {
		wantBuild(t, one, two, 40000, 443, content[:size])
	}
	for _, size := range []int{1473, 1474, 1480, 1481, 1500, 1501, 32768, 65527, 65528, 65535, 65536, 65537, 67008, 67009, 1 << 17} {
		if b, e := Build(one, two, 1, 2, make([]byte, size)); len(b) != 0 || e != api.ErrOver {
			t.Fatalf("%d bytes: %d bytes, %d", size, len(b), e)
		}
	}
}

// P6.2: every checksum makes the sum 65535; none is 0, and one that would be is sent as 65535.
func TestBuildChecksums(t *testing.T) {
	for _, content := range [][]byte{nil, {1}, {0xff, 0xfe}} {
		full := 0
		for from := range 65536 {
			b, e := Build(one, two, uint16(from), 80, content)
			if e != api.OK || len(b) != 8+len(content) || slowTotal(one, two, b) != 65535 || slowNumber(b[6:8]) == 0 {
				t.Fatalf("port %d: %x, %d", from, b, e)
			}
			if slowNumber(b[6:8]) == 65535 {
				full++
			}
			wantParse(t, one, two, b, parsed{uint16(from), 80, api.OK})
		}
		// 0 and 65535 as a port have the same checksum, so two of them may share this one.
		if full < 1 || full > 2 {
			t.Error(full)
		}
	}
}

// P6.2: a checksum that would be 0, worked out by hand; the ones on either side of it stay as they are.
func TestBuildChecksumOfZero(t *testing.T) {
	for _, c := range []struct {
		content []byte
		want    []byte
	}{
		{[]byte{0xff, 0xd9}, []byte{0, 0, 0, 0, 0, 10, 0, 1, 0xff, 0xd9}},
		{[]byte{0xff, 0xda}, []byte{0, 0, 0, 0, 0, 10, 255, 255, 0xff, 0xda}},
		{[]byte{0xff, 0xdb}, []byte{0, 0, 0, 0, 0, 10, 255, 254, 0xff, 0xdb}},
	} {
		b, e := Build(0, 0, 0, 0, c.content)
		if !bytes.Equal(b, c.want) || e != api.OK {
			t.Errorf("%x: %x, %d", c.content, b, e)
		}
		wantParse(t, 0, 0, b, parsed{0, 0, api.OK})
		wantParse(t, 0, 1, b, parsed{e: api.ErrSum})
	}
}

// P6.2: arbitrary arguments, built and parsed again.
func TestBuildOfArbitraryArguments(t *testing.T) {
	r := rand.New(rand.NewSource(62))
	for range 20000 {
		content := make([]byte, r.Intn(50))
		r.Read(content)
		wantBuild(t, r.Uint32(), r.Uint32(), uint16(r.Uint32()), uint16(r.Uint32()), content)
	}
}

// fill changes every byte of b, and of what lies behind it up to its capacity.
func fill(b []byte, c byte) {
	b = b[:cap(b)]
	for i := range b {
		b[i] = c
	}
}

// P6.2 and R4: Build changes neither the content nor what lies behind it, and its result shares no memory with them or with another result.
func TestBuildSharesNothing(t *testing.T) {
	for _, size := range []int{0, 1, 7, 8, 20, 1471, 1472} {
		room := bytes.Repeat([]byte{0x3c, 0x5d}, size+40)
		before := bytes.Clone(room)
		want := slowBuild(one, two, 5, 6, room[:size])
		first, _ := Build(one, two, 5, 6, room[:size])
		second, _ := Build(one, two, 5, 6, room[:size])
		if !bytes.Equal(room, before) {
			t.Fatal("the argument has changed")
		}
		fill(first, 0xee)
		if !bytes.Equal(room, before) || !bytes.Equal(second, want) {
			t.Fatal("the result is not new memory")
		}
		fill(room, 0xdd)
		if !bytes.Equal(second, want) {
			t.Fatal("the result changes with the argument")
		}
	}
}

// P6.2 and R3: an error changes nothing either.
func TestBuildErrorsChangeNothing(t *testing.T) {
	room := bytes.Repeat([]byte{0x3c, 0x5d}, 800)
	before := bytes.Clone(room)
	for _, size := range []int{1473, 1500, 1599, 1600} {
		Build(one, two, 5, 6, room[:size])
		if !bytes.Equal(room, before) {
			t.Fatal("the argument has changed")
		}
	}
}

// R5: what was parsed and built before makes no difference.
func TestNothingIsKept(t *testing.T) {
	b := datagram(5, 1)
	for _, other := range [][]byte{nil, datagram(1440, 3), datagram(0, 0), make([]byte, 1473), captured()} {
		Parse(two, two, other)
		Build(9, 9, 9, 9, other)
		wantParse(t, one, two, b, fromTo)
		wantBuild(t, one, two, 7, 8, b)
	}
}
