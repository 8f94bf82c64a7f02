package ip

import (
	"bytes"
	"math"
	"math/rand"
	"testing"

	"mantlet/api"
)

// known is a header of IPv4 of a packet of 115 bytes, which must not be fragmented; its checksum is 0xb861.
var known = []byte{0x45, 0, 0, 0x73, 0, 0, 0x40, 0, 0x40, 0x11, 0xb8, 0x61, 0xc0, 0xa8, 0, 1, 0xc0, 0xa8, 0, 0xc7}

// tenNine is the document's example of Build.
var tenNine = []byte{0x45, 0, 0, 0x14, 0, 0, 0, 0, 0x40, 0x11, 0x66, 0xd7, 0x0a, 0, 0, 1, 0x0a, 0, 0, 2}

// slowNumber is the number in all bytes of b, most significant first.
func slowNumber(b []byte) int {
	n := 0
	for _, c := range b {
		n = 256*n + int(c)
	}
	return n
}

// slowSum is the sum with carry of the words of b, whose length is even.
func slowSum(b []byte) int {
	total := 0
	for i := 0; i < len(b); i += 2 {
		total += slowNumber(b[i : i+2])
		if total > 65535 {
			total -= 65535
		}
	}
	return total
}

// slowError goes through the errors in the order in which the document names them.
func slowError(b []byte) api.Errno {
	if len(b) > 1500 {
		return api.ErrOver
	}
	if len(b) < 20 {
		return api.ErrShort
	}
	if b[0] < 64 || b[0] > 79 {
		return api.ErrVersion
	}
	words, total := int(b[0])-64, slowNumber(b[2:4])
	if words < 5 {
		return api.ErrHead
	}
	if len(b) < 4*words || total < 4*words || len(b) < total {
		return api.ErrShort
	}
	if slowSum(b[:4*words]) != 65535 {
		return api.ErrSum
	}
	if b[6]/32%2 == 1 || b[6]%32 > 0 || b[7] > 0 {
		return api.ErrFrag
	}
	return api.OK
}

// slowParse is Parse as the document defines it.
func slowParse(b []byte) (api.Head, []byte, api.Errno) {
	if e := slowError(b); e != api.OK {
		return api.Head{}, nil, e
	}
	h := api.Head{
		Proto: b[9],
		Src:   uint32(slowNumber(b[12:16])),
		Dst:   uint32(slowNumber(b[16:20])),
		Size:  (int(b[0]) - 64) * 4,
		Len:   slowNumber(b[2:4]),
		TTL:   b[8],
		ID:    uint16(slowNumber(b[4:6])),
	}
	return h, b[h.Size:h.Len], api.OK
}

// slowBuild puts the bytes of a packet one behind the other.
func slowBuild(h api.Head, b []byte) []byte {
	var p []byte
	word := func(n int) { p = append(p, byte(n/256), byte(n%256)) }
	word(0x4500)
	word(20 + len(b))
	word(int(h.ID))
	word(0)
	word(int(h.TTL)*256 + int(h.Proto))
	for _, n := range []int{0, int(h.Src) / 65536, int(h.Src) % 65536, int(h.Dst) / 65536, int(h.Dst) % 65536} {
		word(n)
	}
	mend(p)
	return append(p, b...)
}

// mend makes the checksum of the header that b says it has right; that of the bytes there are, if b is shorter.
func mend(b []byte) {
	size := min(int(b[0]%16)*4, len(b)) / 2 * 2
	if size < 12 {
		return
	}
	b[10], b[11] = 0, 0
	putWord(b, 10, 65535-slowSum(b[:size]))
}

// putWord stores a number in two bytes.
func putWord(b []byte, at, n int) {
	b[at], b[at+1] = byte(n/256), byte(n%256)
}

// packet returns a packet without an error: so many words of header, with options that are not 0, and so many bytes after it.
func packet(words, content int) []byte {
	b := make([]byte, 4*words+content)
	for i := range b {
		b[i] = byte(37*i + 11)
	}
	b[0], b[6], b[7] = byte(64+words), 0, 0
	putWord(b, 2, len(b))
	mend(b)
	return b
}

// wantParse holds Parse of b against want.
func wantParse(t *testing.T, b []byte, want api.Head, content []byte, e api.Errno) {
	t.Helper()
	h, p, got := Parse(b)
	if h != want || !bytes.Equal(p, content) || got != e {
		t.Fatalf("Parse(%d bytes: %x) = %+v, %d bytes, %d, want %+v, %d bytes, %d", len(b), b[:min(len(b), 60)], h, len(p), got, want, len(content), e)
	}
}

// wantError wants an error, and nothing beside it.
func wantError(t *testing.T, b []byte, e api.Errno) {
	t.Helper()
	wantParse(t, b, api.Head{}, nil, e)
}

// wantAsDefined holds Parse of b against the document's definition.
func wantAsDefined(t *testing.T, b []byte) {
	t.Helper()
	h, p, e := slowParse(b)
	wantParse(t, b, h, p, e)
}

// P4.1: a header that others made, with content, and the document's example of Build, without.
func TestParseKnown(t *testing.T) {
	content := bytes.Repeat([]byte{0xa5, 7}, 48)[:95]
	h := api.Head{Proto: 17, Src: 0xc0a80001, Dst: 0xc0a800c7, Size: 20, Len: 115, TTL: 64}
	wantParse(t, append(bytes.Clone(known), content...), h, content, api.OK)
	h = api.Head{Proto: 17, Src: 0x0a000001, Dst: 0x0a000002, Size: 20, Len: 20, TTL: 64}
	wantParse(t, tenNine, h, nil, api.OK)
}

// P4.1: every field of the Head comes from its own bytes, most significant first.
func TestParseFields(t *testing.T) {
	b := []byte{0x46, 0xff, 0, 27, 0x12, 0x34, 0, 0, 0x56, 0x78, 0, 0, 0x9a, 0xbc, 0xde, 0xf1, 0x23, 0x45, 0x67, 0x89, 1, 2, 3, 4, 5, 6, 7}
	mend(b)
	h := api.Head{Proto: 0x78, Src: 0x9abcdef1, Dst: 0x23456789, Size: 24, Len: 27, TTL: 0x56, ID: 0x1234}
	wantParse(t, b, h, []byte{5, 6, 7}, api.OK)
	b = []byte{0x45, 0, 0, 20, 0xff, 0xff, 0, 0, 0xff, 0xff, 0, 0, 0xff, 0xff, 0xff, 0xff, 0xff, 0xff, 0xff, 0xff}
	mend(b)
	h = api.Head{Proto: 255, Src: math.MaxUint32, Dst: math.MaxUint32, Size: 20, Len: 20, TTL: 255, ID: 65535}
	wantParse(t, b, h, nil, api.OK)
	b = []byte{0x45, 0, 0, 20, 0, 0, 0, 0, 0, 0, 0, 0, 0, 0, 0, 0, 0, 0, 0, 0}
	mend(b)
	wantParse(t, b, api.Head{Size: 20, Len: 20}, nil, api.OK)
}

// P4.1: every value of every byte that is no part of the form of a packet, and of each byte of the options.
func TestParseEveryByte(t *testing.T) {
	for _, at := range []int{1, 4, 5, 8, 9, 12, 13, 14, 15, 16, 17, 18, 19, 20, 23, 24, 27} {
		for c := range 256 {
			b := packet(7, 5)
			b[at] = byte(c)
			mend(b)
			if slowError(b) != api.OK {
				t.Fatalf("byte %d: the packet of the test is wrong: %x", at, b)
			}
			wantAsDefined(t, b)
		}
	}
}

// P4.1: headers of every number of words, without content, with a byte, and with as many as there may be.
func TestParseLongHeaders(t *testing.T) {
	for words := 5; words <= 15; words++ {
		for _, content := range []int{0, 1, 2, 3, 40, 1500 - 4*words} {
			b := packet(words, content)
			h, p, e := Parse(b)
			if e != api.OK || h.Size != 4*words || h.Len != 4*words+content || !bytes.Equal(p, b[4*words:]) {
				t.Errorf("%d words, %d bytes: %+v, %x, %d", words, content, h, p, e)
			}
			wantAsDefined(t, b)
		}
	}
}

// P4.1: the sum is that of the whole header: each byte of the options counts, none behind them.
func TestSumOfOptions(t *testing.T) {
	for words := 5; words <= 15; words++ {
		for at := 20; at < 4*words+8; at++ {
			b := packet(words, 8)
			b[at] ^= 0x10
			if at < 4*words {
				wantError(t, b, api.ErrSum)
				continue
			}
			want, _, _ := Parse(packet(words, 8))
			wantParse(t, b, want, b[4*words:], api.OK)
		}
	}
}

// P4.1: each error alone, in a packet that has nothing else wrong.
func TestEachError(t *testing.T) {
	for i, c := range []struct {
		turn func(b []byte) []byte
		e    api.Errno
	}{
		{func(b []byte) []byte { return b }, api.OK},
		{func(b []byte) []byte { return append(b, make([]byte, 1501-len(b))...) }, api.ErrOver},
		{func(b []byte) []byte { return b[:19] }, api.ErrShort},
		{func(b []byte) []byte { b[0] = 0x55; return b }, api.ErrVersion},
		{func(b []byte) []byte { b[0] = 0x65; return b }, api.ErrVersion},
		{func(b []byte) []byte { b[0] = 0x05; return b }, api.ErrVersion},
		{func(b []byte) []byte { b[0] = 0x54; return b }, api.ErrVersion},
		{func(b []byte) []byte { b[0] = 0x44; return b }, api.ErrHead},
		{func(b []byte) []byte { b[0] = 0x40; return b }, api.ErrHead},
		{func(b []byte) []byte { b[0] = 0x4f; b[3] = 60; return b }, api.ErrShort},
		{func(b []byte) []byte { b[3] = 19; return b }, api.ErrShort},
		{func(b []byte) []byte { b[3] = 0; return b }, api.ErrShort},
		{func(b []byte) []byte { b[3]++; return b }, api.ErrShort},
		{func(b []byte) []byte { b[2] = 1; return b }, api.ErrShort},
		{func(b []byte) []byte { return b[:len(b)-1] }, api.ErrShort},
		{func(b []byte) []byte { b[6] = 0x20; return b }, api.ErrFrag},
		{func(b []byte) []byte { b[6] = 0x01; return b }, api.ErrFrag},
		{func(b []byte) []byte { b[6] = 0x10; return b }, api.ErrFrag},
		{func(b []byte) []byte { b[7] = 0x01; return b }, api.ErrFrag},
		{func(b []byte) []byte { b[7] = 0x80; return b }, api.ErrFrag},
		{func(b []byte) []byte { b[6] = 0x3f; b[7] = 0xff; return b }, api.ErrFrag},
	} {
		b := c.turn(packet(5, 9))
		mend(b)
		if _, _, e := Parse(b); e != c.e {
			t.Errorf("case %d: %d, want %d", i, e, c.e)
		}
		wantAsDefined(t, b)
	}
	for at := range 20 {
		if b := packet(5, 9); at != 0 && at != 2 && at != 3 {
			b[at]++
			wantError(t, b, api.ErrSum)
		}
	}
}

// fault is one of some that cannot be in one packet together; it puts its error into a packet of five words and ten bytes after it.
type fault struct {
	put func(b []byte) []byte
	e   api.Errno
}

var none = fault{func(b []byte) []byte { return b }, api.OK}

// faultsInOrder are the faults in the order in which the document names their errors: all of a row come before all of the next.
func faultsInOrder() [][]fault {
	return [][]fault{
		{none, {func(b []byte) []byte { return append(b, make([]byte, 1501-len(b))...) }, api.ErrOver}, {func(b []byte) []byte { return b[:19] }, api.ErrShort}},
		{none, {func(b []byte) []byte { b[0] += 16; return b }, api.ErrVersion}, {func(b []byte) []byte { b[0] -= 64; return b }, api.ErrVersion}},
		{none, {func(b []byte) []byte { b[0]--; return b }, api.ErrHead}, {func(b []byte) []byte { b[0] += 3; return b }, api.ErrShort}},
		{none, {func(b []byte) []byte { b[3] = 19; return b }, api.ErrShort}, {func(b []byte) []byte { b[3] = 31; return b }, api.ErrShort}},
		{none, {func(b []byte) []byte { b[10] ^= 1; return b }, api.ErrSum}},
		{none, {func(b []byte) []byte { b[6] |= 0x20; return b }, api.ErrFrag}, {func(b []byte) []byte { b[6] |= 0x1f; return b }, api.ErrFrag}, {func(b []byte) []byte { b[7] = 1; return b }, api.ErrFrag}},
	}
}

// P4.1 and R2: of several errors the one that the document names first, for all faults that can be in a packet together.
func TestOrderOfErrors(t *testing.T) {
	tried := 0
	var with func(rows []fault)
	with = func(rows []fault) {
		if all := faultsInOrder(); len(rows) < len(all) {
			for _, f := range all[len(rows)] {
				with(append(rows[:len(rows):len(rows)], f))
			}
			return
		}
		tried++
		wantFirst(t, rows)
	}
	with(nil)
	if tried != 3*3*3*3*2*4 {
		t.Error(tried)
	}
}

// wantFirst wants the error of the first fault.
func wantFirst(t *testing.T, faults []fault) {
	t.Helper()
	b := packet(5, 10)
	e := api.OK
	// The checksum comes after all but its own fault, as the other faults change bytes it covers; the length is cut last.
	for _, i := range []int{1, 2, 3, 5} {
		b = faults[i].put(b)
	}
	mend(b)
	b = faults[0].put(faults[4].put(b))
	for _, f := range faults {
		if e == api.OK {
			e = f.e
		}
	}
	if e != api.OK {
		wantError(t, b, e)
		return
	}
	if _, _, got := Parse(b); got != api.OK {
		t.Errorf("no fault: %d", got)
	}
}

// P4.1: every length of the bytes from 0 on, of a packet as long as they are, and of one that is all of the longest packet.
func TestEveryLength(t *testing.T) {
	whole := packet(5, 1500)
	for size := range 1521 {
		b := bytes.Clone(whole[:size])
		wantAsDefined(t, b)
		want := api.OK
		switch {
		case size < 20:
			want = api.ErrShort
		case size > 1500:
			want = api.ErrOver
		}
		if size >= 20 {
			putWord(b, 2, size)
			mend(b)
		}
		if h, p, e := Parse(b); e != want || e == api.OK && (h.Len != size || len(p) != size-20) {
			t.Fatalf("%d bytes: %+v, %d bytes, %d", size, h, len(p), e)
		}
		wantAsDefined(t, b)
	}
	for _, size := range []int{1502, 3000, 65535, 65536, 65556, 1 << 20} {
		b := make([]byte, size)
		wantError(t, b, api.ErrOver)
		copy(b, packet(5, 3))
		wantError(t, b, api.ErrOver)
	}
}

// P4.1: bytes that are all 0, too few, or none.
func TestNothing(t *testing.T) {
	for _, b := range [][]byte{nil, {}, known[:0], {0x45}, make([]byte, 19), known[:19]} {
		wantError(t, b, api.ErrShort)
	}
	for _, size := range []int{20, 21, 60, 1500} {
		wantError(t, make([]byte, size), api.ErrVersion)
		wantError(t, bytes.Repeat([]byte{255}, size), api.ErrVersion)
	}
	wantError(t, make([]byte, 1501), api.ErrOver)
}

// P4.1: every first byte, with bytes for the longest header, for one word less, and for the shortest.
func TestEveryFirstByte(t *testing.T) {
	for c := range 256 {
		for _, size := range []int{20, 24, 56, 59, 60, 61, 1500} {
			b := packet(5, size-20)
			b[0] = byte(c)
			mend(b)
			wantAsDefined(t, b)
			want := api.OK
			switch {
			case c/16 != 4:
				want = api.ErrVersion
			case c%16 < 5:
				want = api.ErrHead
			case c%16*4 > size:
				want = api.ErrShort
			}
			if _, _, e := Parse(b); e != want {
				t.Fatalf("first byte %#x, %d bytes: %d, want %d", c, size, e, want)
			}
		}
	}
}

// P4.1: a header with more words than there are bytes, even if the total length says that there are enough.
func TestShorterThanTheHeader(t *testing.T) {
	for words := 5; words <= 15; words++ {
		for size := 20; size < 4*words; size++ {
			for _, total := range []int{0, 20, size, 4 * words, 1500} {
				b := packet(15, 0)[:size]
				b[0] = byte(64 + words)
				putWord(b, 2, total)
				mend(b)
				wantError(t, b, api.ErrShort)
			}
		}
	}
}

// P4.1: every total length: below the header, in the bytes, and above them. Bytes behind it are no content.
func TestEveryTotalLength(t *testing.T) {
	for _, c := range []struct{ words, content int }{{5, 0}, {5, 30}, {6, 3}, {15, 0}, {15, 7}, {5, 1480}, {15, 1440}} {
		b := packet(c.words, c.content)
		for total := range 65536 {
			putWord(b, 2, total)
			mend(b)
			h, p, e := Parse(b)
			if total < 4*c.words || total > len(b) {
				if h != (api.Head{}) || len(p) != 0 || e != api.ErrShort {
					t.Fatalf("%+v, total length %d: %+v, %d bytes, %d", c, total, h, len(p), e)
				}
			} else if h.Len != total || h.Size != 4*c.words || !bytes.Equal(p, b[4*c.words:total]) || e != api.OK {
				t.Fatalf("%+v, total length %d: %+v, %x, %d", c, total, h, p, e)
			}
		}
	}
}

// P4.1: what bytes stand behind the total length makes no difference.
func TestBytesBehind(t *testing.T) {
	for _, words := range []int{5, 8, 15} {
		for _, content := range []int{0, 1, 6} {
			b := packet(words, content)
			want, p, _ := Parse(b)
			for _, more := range [][]byte{{0}, {255}, {1, 2, 3}, b, make([]byte, 1500-len(b)), bytes.Repeat([]byte{255}, 1500-len(b))} {
				wantParse(t, append(bytes.Clone(b), more...), want, p, api.OK)
			}
			wantError(t, append(bytes.Clone(b), make([]byte, 1501-len(b))...), api.ErrOver)
		}
	}
}

// P4.1: each single bit of a header turned makes it wrong; none of the content does.
func TestEachBitTurned(t *testing.T) {
	for _, c := range []struct{ words, content int }{{5, 0}, {5, 9}, {5, 300}, {6, 4}, {15, 2}, {15, 1440}} {
		b := packet(c.words, c.content)
		size := 4 * c.words
		want, _, _ := Parse(b)
		for i := range 8 * min(len(b), size+9) {
			b[i/8] ^= 1 << (i % 8)
			if i/8 < size {
				if e := slowError(b); e == api.OK {
					t.Fatalf("%+v, bit %d: the reference is wrong", c, i)
				} else {
					wantError(t, b, e)
				}
			} else {
				wantParse(t, b, want, b[size:], api.OK)
			}
			b[i/8] ^= 1 << (i % 8)
		}
	}
}

// P4.1: the errors of the bits turned, byte by byte, in a packet that is long enough for every header.
func TestErrorsOfBitsTurned(t *testing.T) {
	for i := range 160 {
		b := packet(5, 76)
		b[i/8] ^= 1 << (i % 8)
		want := api.ErrSum
		switch {
		case i >= 4 && i < 8:
			want = api.ErrVersion
		case i == 0 || i == 2:
			want = api.ErrHead
		case i >= 16 && i < 32 && slowNumber(b[2:4]) > 96:
			want = api.ErrShort
		}
		wantError(t, b, want)
	}
}

// P4.1: each single bit of a header turned, with a checksum that is right again.
func TestEachBitTurnedAndMended(t *testing.T) {
	for _, c := range []struct{ words, content int }{{5, 9}, {5, 300}, {6, 4}, {15, 40}} {
		for i := range 32 * c.words {
			b := packet(c.words, c.content)
			b[i/8] ^= 1 << (i % 8)
			mend(b)
			wantAsDefined(t, b)
		}
	}
}

// P4.1: all flags and offsets: only the two highest bits may be set.
func TestEveryFragment(t *testing.T) {
	for _, words := range []int{5, 15} {
		b := packet(words, 3)
		for n := range 65536 {
			putWord(b, 6, n)
			mend(b)
			_, p, e := Parse(b)
			if whole := n%16384 == 0; whole != (e == api.OK) || whole != (len(p) == 3) || !whole && e != api.ErrFrag {
				t.Fatalf("%d words, flags and offset %#x: %x, %d", words, n, p, e)
			}
		}
	}
}

// P4.1: of all checksums only the right one will do, and 0 and 65535 where either is right.
func TestEveryChecksum(t *testing.T) {
	for _, words := range []int{5, 6, 15} {
		b := packet(words, 1)
		right := slowNumber(b[10:12])
		for n := range 65536 {
			putWord(b, 10, n)
			if _, _, e := Parse(b); (e == api.OK) != (n == right) || n != right && e != api.ErrSum {
				t.Fatalf("%d words, checksum %#x in place of %#x: %d", words, n, right, e)
			}
		}
	}
	b := packet(5, 1)
	putWord(b, 4, (slowNumber(b[4:6])+slowNumber(b[10:12]))%65535)
	for n := range 65536 {
		putWord(b, 10, n)
		if _, _, e := Parse(b); (e == api.OK) != (n == 0 || n == 65535) {
			t.Fatalf("checksum %#x in place of 0 or 65535: %d", n, e)
		}
	}
}

// P4.1: arbitrary bytes, many of them nearly a packet, held against the document's definition.
func TestArbitraryBytes(t *testing.T) {
	r := rand.New(rand.NewSource(41))
	seen := map[api.Errno]int{}
	for range 100000 {
		b := make([]byte, r.Intn(90))
		if r.Intn(50) == 0 {
			b = make([]byte, 1490+r.Intn(20))
		}
		r.Read(b)
		if len(b) >= 20 && r.Intn(8) > 0 {
			b[0] = byte(0x44 + r.Intn(7))
			putWord(b, 2, max(0, len(b)+r.Intn(9)-6))
			if b[6], b[7] = b[6]&0xc0, 0; r.Intn(4) == 0 {
				b[6+r.Intn(2)] = 1 << r.Intn(8)
			}
			if r.Intn(4) > 0 {
				mend(b)
			}
		}
		_, _, e := slowParse(b)
		seen[e]++
		wantAsDefined(t, b)
	}
	for _, e := range []api.Errno{api.OK, api.ErrOver, api.ErrShort, api.ErrVersion, api.ErrHead, api.ErrSum, api.ErrFrag} {
		if seen[e] == 0 {
			t.Errorf("error %d did not occur: %v", e, seen)
		}
	}
}

// P4.1: the length of the bytes counts, not what lies behind it in memory.
func TestParseKeepsToTheLength(t *testing.T) {
	whole := packet(15, 20)
	for size := range len(whole) {
		wantError(t, whole[:size:size], api.ErrShort)
		wantError(t, whole[:size], api.ErrShort)
	}
	long := append(packet(5, 1480), 0, 0)
	wantAsDefined(t, long[:1500])
	if _, p, e := Parse(long[:1500]); e != api.OK || len(p) != 1480 {
		t.Error(len(p), e)
	}
	wantError(t, long[:1501], api.ErrOver)
	wantError(t, long, api.ErrOver)
}

// fill changes every byte of b, and of what lies behind it up to its capacity.
func fill(b []byte, c byte) {
	for i := range b[:cap(b)] {
		b[:cap(b)][i] = c
	}
}

// wantNewMemory wants that a call on a part of room changes none of it, and that its result shares no memory with room or with another result.
func wantNewMemory(t *testing.T, room []byte, call func() []byte) {
	t.Helper()
	before := bytes.Clone(room)
	p, again := call(), call()
	if !bytes.Equal(room, before) {
		t.Fatal("the argument has changed")
	}
	want := bytes.Clone(p)
	fill(p, 0xee)
	if !bytes.Equal(room, before) || !bytes.Equal(again, want) {
		t.Fatal("the result is not new memory")
	}
	fill(room, 0xdd)
	if !bytes.Equal(again, want) {
		t.Fatal("the result changes with the argument")
	}
	copy(room, before)
	if !bytes.Equal(call(), want) {
		t.Fatal("another call returns another result")
	}
}

// P4.1 and R4: Parse changes nothing, and what it returns shares no memory with the bytes or with another result.
func TestParseSharesNothing(t *testing.T) {
	for _, c := range []struct{ words, content int }{{5, 0}, {5, 1}, {5, 9}, {7, 40}, {15, 1440}} {
		room := append(packet(c.words, c.content), 1, 2, 3, 4, 5, 6, 7, 8)
		size := 4*c.words + c.content
		for _, n := range []int{size, min(len(room), 1500), 19, size - 1, len(room)} {
			wantNewMemory(t, room, func() []byte {
				_, p, _ := Parse(room[:n])
				return p
			})
		}
	}
}

// P4.2: the document's example, and a header that others made but for its flags.
func TestBuildKnown(t *testing.T) {
	h := api.Head{Proto: 17, Src: 0x0a000001, Dst: 0x0a000002, TTL: 64}
	for _, b := range [][]byte{nil, {}, known[:0]} {
		if p, e := Build(h, b); !bytes.Equal(p, tenNine) || e != api.OK {
			t.Errorf("%x, %d", p, e)
		}
	}
	content := bytes.Repeat([]byte{0xa5, 7}, 48)[:95]
	want := append(bytes.Clone(known), content...)
	want[6], want[10] = 0, 0xf8
	h = api.Head{Proto: 17, Src: 0xc0a80001, Dst: 0xc0a800c7, TTL: 64}
	if p, e := Build(h, content); !bytes.Equal(p, want) || e != api.OK {
		t.Errorf("%x, %d", p, e)
	}
}

// P4.2: every field of the Head stands in its own bytes, most significant first.
func TestBuildFields(t *testing.T) {
	h := api.Head{Proto: 0x78, Src: 0x9abcdef1, Dst: 0x23456789, TTL: 0x56, ID: 0x1234}
	want := []byte{0x45, 0, 0, 23, 0x12, 0x34, 0, 0, 0x56, 0x78, 0, 0, 0x9a, 0xbc, 0xde, 0xf1, 0x23, 0x45, 0x67, 0x89, 5, 6, 7}
	mend(want)
	if p, e := Build(h, []byte{5, 6, 7}); !bytes.Equal(p, want) || e != api.OK {
		t.Errorf("%x, %d, want %x", p, e, want)
	}
	want = []byte{0x45, 0, 0, 20, 0, 0, 0, 0, 0, 0, 0xba, 0xeb, 0, 0, 0, 0, 0, 0, 0, 0}
	if p, e := Build(api.Head{}, nil); !bytes.Equal(p, want) || e != api.OK {
		t.Errorf("%x, %d, want %x", p, e, want)
	}
	want = []byte{0x45, 0, 0, 20, 0xff, 0xff, 0, 0, 0xff, 0xff, 0, 0, 0xff, 0xff, 0xff, 0xff, 0xff, 0xff, 0xff, 0xff}
	mend(want)
	h = api.Head{Proto: 255, Src: math.MaxUint32, Dst: math.MaxUint32, TTL: 255, ID: 65535}
	if p, e := Build(h, nil); !bytes.Equal(p, want) || e != api.OK {
		t.Errorf("%x, %d, want %x", p, e, want)
	}
}

// heads returns Heads in which one field has every byte or bit, and mixed ones.
func heads() []api.Head {
	all := []api.Head{{}}
	for c := range 256 {
		all = append(all, api.Head{Proto: uint8(c)}, api.Head{TTL: uint8(c)}, api.Head{ID: uint16(c)}, api.Head{ID: uint16(c) << 8})
	}
	for i := range 32 {
		all = append(all, api.Head{Src: 1 << i}, api.Head{Dst: 1 << i}, api.Head{Src: ^uint32(1 << i)}, api.Head{Dst: ^uint32(1 << i)})
	}
	r := rand.New(rand.NewSource(42))
	for range 500 {
		all = append(all, api.Head{Proto: uint8(r.Uint32()), Src: r.Uint32(), Dst: r.Uint32(), TTL: uint8(r.Uint32()), ID: uint16(r.Uint32())})
	}
	return all
}

// P4.2: many Heads with some contents, held against the document's definition, and parsed again.
func TestManyBuilt(t *testing.T) {
	for _, h := range heads() {
		for _, size := range []int{0, 1, 2, 7, 235, 236, 1480} {
			content := bytes.Repeat([]byte{0xc3, 0x5a, 0xff}, 500)[:size]
			p, e := Build(h, content)
			if e != api.OK || !bytes.Equal(p, slowBuild(h, content)) {
				t.Fatalf("Build(%+v, %d bytes) = %x, %d", h, size, p[:min(len(p), 20)], e)
			}
			want := h
			want.Size, want.Len = 20, 20+size
			wantParse(t, p, want, content, api.OK)
		}
	}
}

// P4.2: contents of every length; from 1481 bytes on there is no packet.
func TestBuildEveryLength(t *testing.T) {
	h := api.Head{Proto: 6, Src: 0x01020304, Dst: 0xfffefdfc, TTL: 3, ID: 77}
	content := make([]byte, 1<<17)
	for i := range content {
		content[i] = byte(i*i + 7)
	}
	for size := range 1481 {
		if p, e := Build(h, content[:size]); e != api.OK || len(p) != 20+size || !bytes.Equal(p, slowBuild(h, content[:size])) {
			t.Fatalf("%d bytes: %d bytes, %d", size, len(p), e)
		}
	}
	for _, size := range []int{1481, 1482, 1499, 1500, 1501, 65515, 65516, 65535, 65536, 65537, 1 << 17} {
		if p, e := Build(h, content[:size]); e != api.ErrOver || len(p) != 0 {
			t.Errorf("%d bytes: %d bytes, %d", size, len(p), e)
		}
	}
}

// P4.2: Size and Len are ignored, whatever they are.
func TestBuildIgnoresSizeAndLen(t *testing.T) {
	numbers := []int{math.MinInt, -20, -1, 0, 1, 4, 5, 19, 20, 24, 60, 64, 1480, 1500, 1501, 65535, 65536, math.MaxInt}
	for _, content := range [][]byte{nil, {9}, make([]byte, 1480)} {
		h := api.Head{Proto: 1, Src: 5, Dst: 6, TTL: 7, ID: 8}
		want := slowBuild(h, content)
		for _, h.Size = range numbers {
			for _, h.Len = range numbers {
				if p, e := Build(h, content); !bytes.Equal(p, want) || e != api.OK {
					t.Fatalf("%+v: %x, %d", h, p, e)
				}
				if p, e := Build(h, make([]byte, 1481)); len(p) != 0 || e != api.ErrOver {
					t.Fatalf("%+v: %x, %d", h, p, e)
				}
			}
		}
	}
}

// P4.2: for each ID the checksum makes the header's sum 65535; it may be 0, and then it is not 65535.
func TestBuildChecksums(t *testing.T) {
	zeros := 0
	for id := range 65536 {
		h := api.Head{Proto: 17, Src: 0x0a000001, Dst: 0x0a000002, TTL: 64, ID: uint16(id)}
		p, e := Build(h, []byte{1, 2, 3})
		if e != api.OK || len(p) != 23 || slowSum(p[:20]) != 65535 || slowNumber(p[10:12]) == 65535 {
			t.Fatalf("ID %d: %x, %d", id, p, e)
		}
		if slowNumber(p[10:12]) == 0 {
			zeros++
		}
	}
	if zeros != 1 {
		t.Error(zeros)
	}
}

// P4.2: the checksum is that of the header alone.
func TestBuildDoesNotSumTheContent(t *testing.T) {
	h := api.Head{Proto: 1, Src: 0x7f000001, Dst: 0x7f000001, TTL: 1}
	want, _ := Build(h, make([]byte, 4))
	for i := range 32 {
		content := make([]byte, 4)
		content[i/8] = 1 << (i % 8)
		if p, e := Build(h, content); e != api.OK || !bytes.Equal(p[:20], want[:20]) || !bytes.Equal(p[20:], content) {
			t.Errorf("bit %d: %x, %d", i, p, e)
		}
	}
}

// P4.2 and R4: Build changes nothing, and what it returns shares no memory with the bytes or with another result.
func TestBuildSharesNothing(t *testing.T) {
	h := api.Head{Proto: 6, Src: 1, Dst: 2, TTL: 3, ID: 4}
	for _, size := range []int{0, 1, 8, 1480, 1481} {
		room := bytes.Repeat([]byte{0x3c}, size+40)
		wantNewMemory(t, room, func() []byte {
			p, _ := Build(h, room[:size])
			return p
		})
	}
}

// R5: what was parsed and built before makes no difference.
func TestNothingIsKept(t *testing.T) {
	b := packet(6, 5)
	h, p, e := Parse(b)
	for _, other := range [][]byte{nil, packet(15, 1440), packet(5, 0), make([]byte, 1501), known} {
		Parse(other)
		Build(api.Head{Proto: 9, Src: 9, Dst: 9, TTL: 9, ID: 9}, other)
		wantParse(t, b, h, p, e)
		if built, e := Build(h, p); e != api.OK || !bytes.Equal(built, slowBuild(h, p)) {
			t.Errorf("%x, %d", built, e)
		}
	}
}
