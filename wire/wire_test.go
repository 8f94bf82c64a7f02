package wire

import (
	"bytes"
	"math"
	"math/rand"
	"testing"

	"mantlet/api"
	"mantlet/icmp"
	"mantlet/ip"
	"mantlet/tcp"
	"mantlet/udp"
)

// What most packets here say.
const (
	one   = 0x0a000001
	two   = 0xc0a8fe97
	from  = 0x1234
	to    = 0x5678
	ident = 0x9abc
)

// letters are the content of a ping that another program makes.
const letters = "abcdefghijklmnopqrstuvwabcdefghi"

// edges are words at which a lost byte shows.
var edges = []int{0, 1, 0x7f, 0x80, 0xff, 0x100, 0x1234, 0x7fff, 0x8000, 0xff00, 0xfffe, 0xffff}

// parsed is what Parse returns.
type parsed struct {
	p api.Packet
	e api.Errno
}

// slowNumber is the number in all bytes of b, most significant first.
func slowNumber(b []byte) int {
	n := 0
	for _, c := range b {
		n = 256*n + int(c)
	}
	return n
}

// slowSum is the sum with carry of the words of b; a zero byte follows an odd last one.
func slowSum(b []byte) int {
	total := 0
	for i := 0; i < len(b); i += 2 {
		total += 256 * int(b[i])
		if i+1 < len(b) {
			total += int(b[i+1])
		}
		if total > 65535 {
			total -= 65535
		}
	}
	return total
}

// slowTotal is the sum of the content c of the packet b and of its pseudo header.
func slowTotal(b, c []byte) int {
	all := append(bytes.Clone(b[12:20]), 0, b[9], byte(len(c)/256), byte(len(c)%256))
	return slowSum(append(all, c...))
}

// slowHead goes through the errors of chapter 4 in the order in which it names them.
func slowHead(b []byte) api.Errno {
	switch {
	case len(b) > 1500:
		return api.ErrOver
	case len(b) < 20:
		return api.ErrShort
	case b[0]/16 != 4:
		return api.ErrVersion
	}
	size, total := int(b[0]%16)*4, slowNumber(b[2:4])
	switch {
	case size < 20:
		return api.ErrHead
	case len(b) < size || total < size || len(b) < total:
		return api.ErrShort
	case slowSum(b[:size]) != 65535:
		return api.ErrSum
	case b[6]/32%2 == 1 || b[6]%32 > 0 || b[7] > 0:
		return api.ErrFrag
	}
	return api.OK
}

// slowFlags reports whether flags are consistent.
func slowFlags(flags byte) bool {
	fin, syn, rst, ack := int(flags%2), int(flags/2%2), int(flags/4%2), int(flags/16%2)
	return fin+syn+rst <= 1 && syn+rst+ack >= 1
}

// slowTCP goes through the errors of chapter 5 for the content c of b.
func slowTCP(b, c []byte) api.Errno {
	switch {
	case len(c) < 20:
		return api.ErrShort
	case c[12]/16 < 5:
		return api.ErrHead
	case len(c) < int(c[12]/16)*4:
		return api.ErrShort
	case slowTotal(b, c) != 65535:
		return api.ErrSum
	case !slowFlags(c[13]):
		return api.ErrFlags
	}
	return api.OK
}

// slowUDP goes through the errors of chapter 6 for the content c of b.
func slowUDP(b, c []byte) api.Errno {
	if len(c) < 8 {
		return api.ErrShort
	}
	size := slowNumber(c[4:6])
	switch {
	case size < 8:
		return api.ErrHead
	case len(c) < size:
		return api.ErrShort
	case slowNumber(c[6:8]) != 0 && slowTotal(b, c[:size]) != 65535:
		return api.ErrSum
	}
	return api.OK
}

// slowICMP goes through the errors of chapter 7 for the content c.
func slowICMP(c []byte) api.Errno {
	switch {
	case len(c) < 8:
		return api.ErrShort
	case slowSum(c) != 65535:
		return api.ErrSum
	case c[0] != 0 && c[0] != 8 || c[1] != 0:
		return api.ErrKind
	}
	return api.OK
}

// slowContent goes through the errors of what is behind the header of b.
func slowContent(b []byte) api.Errno {
	c := inside(b)
	switch b[9] {
	case 1:
		return slowICMP(c)
	case 6:
		return slowTCP(b, c)
	case 17:
		return slowUDP(b, c)
	}
	return api.ErrProto
}

// slowParse is Parse as the document defines it.
func slowParse(b []byte) parsed {
	if e := slowHead(b); e != api.OK {
		return parsed{e: e}
	}
	if e := slowContent(b); e != api.OK {
		return parsed{e: e}
	}
	return slowPacket(b)
}

// slowPacket are the results for a packet without an error.
func slowPacket(b []byte) parsed {
	c := inside(b)
	p := api.Packet{Proto: b[9], Src: uint32(slowNumber(b[12:16])), Dst: uint32(slowNumber(b[16:20]))}
	first, second, third := uint16(slowNumber(c[:2])), uint16(slowNumber(c[2:4])), uint16(slowNumber(c[4:6]))
	switch p.Proto {
	case 1:
		p.SPort, p.DPort, p.Kind = third, third, c[0]
	case 6:
		p.SPort, p.DPort, p.Flags = first, second, c[13]%64
	case 17:
		p.SPort, p.DPort = first, second
	}
	return parsed{p, api.OK}
}

// putWord stores a number in two bytes.
func putWord(b []byte, at, n int) {
	b[at], b[at+1] = byte(n/256), byte(n%256)
}

// inside returns what is between the header that b says it has and the end that b says it has, or as much of it as there is.
func inside(b []byte) []byte {
	end := min(slowNumber(b[2:4]), len(b))
	return b[min(int(b[0]%16)*4, end):end]
}

// mendHead makes the checksum of the header of b right.
func mendHead(b []byte) []byte {
	size := min(int(b[0]%16)*4, len(b))
	if size >= 12 {
		putWord(b, 10, 0)
		putWord(b, 10, 65535-slowSum(b[:size]))
	}
	return b
}

// mendContent makes the checksum behind the header of b right, if there is a place for it.
func mendContent(b []byte) []byte {
	c := inside(b)
	switch {
	case b[9] == 1 && len(c) >= 4:
		putWord(c, 2, 0)
		putWord(c, 2, 65535-slowSum(c))
	case b[9] == 6 && len(c) >= 18:
		putWord(c, 16, 0)
		putWord(c, 16, 65535-slowTotal(b, c))
	case b[9] == 17 && len(c) >= 8:
		if size := slowNumber(c[4:6]); size >= 8 && size < len(c) {
			c = c[:size]
		}
		putWord(c, 6, 0)
		if n := 65535 - slowTotal(b, c); n > 0 {
			putWord(c, 6, n)
		} else {
			putWord(c, 6, 65535)
		}
	}
	return b
}

// mend makes both checksums of b right.
func mend(b []byte) []byte {
	return mendHead(mendContent(b))
}

// filled returns so many bytes, of which neighbours differ.
func filled(size int) []byte {
	b := make([]byte, size)
	for i := range b {
		b[i] = byte(37*i + 11)
	}
	return b
}

// packet returns a packet from one to two: so many words of header, with options that are not 0, and the content behind it.
func packet(proto byte, words int, content []byte) []byte {
	b := filled(4 * words)
	copy(b, []byte{byte(64 + words), 0, 0, 0, 0x13, 0x57, 0x40, 0, 64, proto, 0, 0, 0x0a, 0, 0, 1, 0xc0, 0xa8, 0xfe, 0x97})
	b = append(b, content...)
	putWord(b, 2, len(b))
	return mend(b)
}

// segment is the content of a packet of TCP, but for its checksum: so many words of header and so many bytes.
func segment(flags byte, words, size int) []byte {
	c := filled(4*words + size)
	putWord(c, 0, from)
	putWord(c, 2, to)
	c[12], c[13] = byte(16*words), flags
	return c
}

// datagram is the content of a packet of UDP, but for its checksum.
func datagram(size int) []byte {
	c := filled(8 + size)
	putWord(c, 0, from)
	putWord(c, 2, to)
	putWord(c, 4, len(c))
	return c
}

// message is the content of a packet of ICMP, but for its checksum.
func message(kind byte, size int) []byte {
	c := filled(8 + size)
	c[0], c[1] = kind, 0
	putWord(c, 4, ident)
	return c
}

// Where in all the packet of each protocol is.
const (
	atTCP = iota
	atUDP
	atEcho
	atReply
)

// all returns a packet without an error of each protocol and kind, each with so many words of header.
func all(words, size int) [][]byte {
	return [][]byte{
		packet(6, words, segment(api.Syn|api.Ack, 5, size)),
		packet(17, words, datagram(size)),
		packet(1, words, message(api.Echo, size)),
		packet(1, words, message(api.EchoReply, size)),
	}
}

// wants are the results for the packets of all.
var wants = [...]parsed{
	{api.Packet{Proto: 6, Src: one, Dst: two, SPort: from, DPort: to, Flags: 18}, api.OK},
	{api.Packet{Proto: 17, Src: one, Dst: two, SPort: from, DPort: to}, api.OK},
	{api.Packet{Proto: 1, Src: one, Dst: two, SPort: ident, DPort: ident, Kind: 8}, api.OK},
	{api.Packet{Proto: 1, Src: one, Dst: two, SPort: ident, DPort: ident}, api.OK},
}

// parse is Parse with its results in one value.
func parse(b []byte) parsed {
	p, e := Parse(b)
	return parsed{p, e}
}

// wantParse holds all results of Parse against want.
func wantParse(t *testing.T, b []byte, want parsed) {
	t.Helper()
	if got := parse(b); got != want {
		t.Fatalf("Parse(%d bytes: %x) = %+v, want %+v", len(b), b[:min(len(b), 80)], got, want)
	}
}

// wantError wants an error, and the zero Packet beside it.
func wantError(t *testing.T, b []byte, e api.Errno) {
	t.Helper()
	wantParse(t, b, parsed{e: e})
}

// wantAsDefined holds Parse of b against the document's definition.
func wantAsDefined(t *testing.T, b []byte) {
	t.Helper()
	wantParse(t, b, slowParse(b))
}

// knownSyn is a packet that others made: the first of a connection with a web server, with options behind its TCP header.
func knownSyn() []byte {
	return []byte{
		0x45, 0x00, 0x00, 0x30, 0x0f, 0x41, 0x40, 0x00, 0x80, 0x06, 0x91, 0xeb, 0x91, 0xfe, 0xa0, 0xed, 0x41, 0xd0, 0xe4, 0xdf,
		0x0d, 0x2c, 0x00, 0x50, 0x38, 0xaf, 0xfe, 0x13, 0x00, 0x00, 0x00, 0x00, 0x70, 0x02, 0x22, 0x38, 0xc3, 0x0c, 0x00, 0x00,
		0x02, 0x04, 0x05, 0xb4, 0x01, 0x01, 0x04, 0x02,
	}
}

// knownDiscover is a packet that others made: a DHCP Discover, sent from 0.0.0.0 to 255.255.255.255.
func knownDiscover() []byte {
	b := []byte{0x45, 0x00, 0x01, 0x2c, 0xa8, 0x36, 0x00, 0x00, 0xfa, 0x11, 0x17, 0x8b, 0, 0, 0, 0, 255, 255, 255, 255}
	b = append(b, 0, 68, 0, 67, 0x01, 0x18, 0x59, 0x1f, 1, 1, 6, 0, 0, 0, 0x3d, 0x1d)
	b = append(b, make([]byte, 20)...)
	b = append(b, 0x00, 0x0b, 0x82, 0x01, 0xfc, 0x42)
	b = append(b, make([]byte, 202)...)
	b = append(b, 0x63, 0x82, 0x53, 0x63, 0x35, 1, 1, 0x3d, 7, 1, 0x00, 0x0b, 0x82, 0x01, 0xfc, 0x42)
	b = append(b, 0x32, 4, 0, 0, 0, 0, 0x37, 4, 1, 3, 6, 42, 0xff)
	return append(b, make([]byte, 7)...)
}

// P8.1: packets that other programs made, and a ping and its reply that they made behind a header written here.
func TestParseKnown(t *testing.T) {
	wantParse(t, knownSyn(), parsed{api.Packet{Proto: 6, Src: 0x91fea0ed, Dst: 0x41d0e4df, SPort: 3372, DPort: 80, Flags: 2}, api.OK})
	wantParse(t, knownDiscover(), parsed{api.Packet{Proto: 17, Dst: math.MaxUint32, SPort: 68, DPort: 67}, api.OK})
	ping := append([]byte{8, 0, 0x4d, 0x5a, 0, 1, 0, 1}, letters...)
	pong := append([]byte{0, 0, 0x55, 0x5a, 0, 1, 0, 1}, letters...)
	head := []byte{0x45, 0, 0, 60, 0, 0, 0, 0, 64, 1, 0x66, 0xbf, 10, 0, 0, 1, 10, 0, 0, 2}
	wantParse(t, append(bytes.Clone(head), ping...), parsed{api.Packet{Proto: 1, Src: 0x0a000001, Dst: 0x0a000002, SPort: 1, DPort: 1, Kind: 8}, api.OK})
	wantParse(t, append(bytes.Clone(head), pong...), parsed{api.Packet{Proto: 1, Src: 0x0a000001, Dst: 0x0a000002, SPort: 1, DPort: 1}, api.OK})
	for _, b := range [][]byte{knownSyn(), knownDiscover(), append(head, ping...)} {
		for i := range b {
			b[i] ^= 128
			if got := parse(b); got.e == api.OK || got.p != (api.Packet{}) {
				t.Fatalf("byte %d turned: %+v", i, got)
			}
			b[i] ^= 128
		}
	}
}

// P8.1: the document's example, and everything else that is too short for a header.
func TestParseOfFewBytes(t *testing.T) {
	for c := range 256 {
		wantError(t, []byte{byte(c)}, api.ErrShort)
	}
	for size := range 20 {
		wantError(t, make([]byte, size), api.ErrShort)
		wantError(t, bytes.Repeat([]byte{0x45}, size), api.ErrShort)
		wantError(t, bytes.Repeat([]byte{255}, size), api.ErrShort)
	}
}

// P8.1 and R1: nil and empty slices are the same.
func TestParseOfNothing(t *testing.T) {
	for _, b := range [][]byte{nil, {}, knownSyn()[:0], knownSyn()[48:]} {
		wantError(t, b, api.ErrShort)
	}
}

// P8.1: each result of Parse comes from its own bytes, for each protocol.
func TestParseEveryBitOfEachField(t *testing.T) {
	for i := range 32 {
		for _, n := range []uint32{1 << i, ^uint32(1 << i)} {
			high, low := int(n/65536), int(n%65536)
			for k, b := range all(5, 5) {
				want := wants[k]
				want.p.Src = n
				putWord(b, 12, high)
				putWord(b, 14, low)
				wantParse(t, mend(b), want)
				want.p.Dst = ^n
				putWord(b, 16, 65535-high)
				putWord(b, 18, 65535-low)
				wantParse(t, mend(b), want)
				want.p.SPort, want.p.DPort = uint16(low), ^uint16(low)
				putWord(b, 20, low)
				putWord(b, 22, 65535-low)
				if b[9] == 1 { // of an echo message the first bytes are others
					copy(b[20:], message(want.p.Kind, 0)[:4])
					putWord(b, 24, low)
					want.p.DPort = uint16(low)
				}
				wantParse(t, mend(b), want)
			}
		}
	}
}

// P8.1: of TCP all flags: those that are consistent are a part of the Packet, without 64 and 128.
func TestParseEveryFlags(t *testing.T) {
	for n := range 256 {
		want := parsed{e: api.ErrFlags}
		if slowFlags(byte(n)) {
			want = wants[atTCP]
			want.p.Flags = byte(n % 64)
		}
		for _, size := range []int{0, 7} {
			wantParse(t, packet(6, 5, segment(byte(n), 5, size)), want)
		}
	}
	for _, flags := range []byte{2, 4, 16, 18, 20, 17, 25, 24, 48, 63 - 5, 63 - 3, 63 - 6, 49} {
		want := wants[atTCP]
		want.p.Flags = flags
		for _, ignored := range []byte{0, 64, 128, 192} {
			wantParse(t, packet(6, 5, segment(flags+ignored, 5, 0)), want)
		}
	}
	for _, flags := range []byte{0, 1, 3, 5, 6, 7, 8, 9, 32, 33, 40, 19, 21, 22, 23, 63, 64, 128, 192, 255} {
		wantError(t, packet(6, 5, segment(flags, 5, 0)), api.ErrFlags)
	}
}

// P8.1: TCP headers of each number of words.
func TestParseEveryTCPHeader(t *testing.T) {
	for words := range 16 {
		c := segment(api.Ack, 15, 3)
		c[12] = byte(16*words + 15)
		want := wants[atTCP]
		want.p.Flags = 16
		if words < 5 {
			want = parsed{e: api.ErrHead}
		}
		wantParse(t, packet(6, 5, c), want)
		if words > 5 {
			wantParse(t, packet(6, 5, c[:4*words]), want)
			wantError(t, packet(6, 5, c[:4*words-1]), api.ErrShort)
		}
	}
}

// P8.1: of ICMP each kind and code: two kinds are right, with one code, and no port is one of TCP's or UDP's.
func TestParseEveryKindAndCode(t *testing.T) {
	for n := range 65536 {
		c := message(api.Echo, 3)
		putWord(c, 0, n)
		want := parsed{e: api.ErrKind}
		switch n {
		case 0x0800:
			want = wants[atEcho]
		case 0x0000:
			want = wants[atReply]
		}
		wantParse(t, packet(1, 5, c), want)
	}
}

// P8.1: of ICMP the identifier is both ports.
func TestParseEveryIdent(t *testing.T) {
	for _, k := range []int{atEcho, atReply} {
		b, want := all(5, 3)[k], wants[k]
		for n := range 65536 {
			putWord(b, 24, n)
			want.p.SPort, want.p.DPort = uint16(n), uint16(n)
			wantParse(t, mend(b), want)
		}
	}
}

// P8.1: of TCP and UDP the ports, each at its edges.
func TestParsePorts(t *testing.T) {
	for _, k := range []int{atTCP, atUDP} {
		b, want := all(5, 3)[k], wants[k]
		for _, source := range edges {
			for _, destination := range edges {
				putWord(b, 20, source)
				putWord(b, 22, destination)
				want.p.SPort, want.p.DPort = uint16(source), uint16(destination)
				wantParse(t, mend(b), want)
			}
		}
	}
}

// P8.1: every other Proto is an error, whatever is behind the header.
func TestParseEveryProto(t *testing.T) {
	contents := [][]byte{nil, {1}, make([]byte, 8), make([]byte, 20), filled(1480)}
	for _, b := range all(5, 4) {
		contents = append(contents, b[20:])
	}
	for n := range 256 {
		for _, c := range contents {
			for _, words := range []int{5, 9} {
				b := packet(byte(n), words, c[:min(len(c), 1500-4*words)])
				if n == 1 || n == 6 || n == 17 {
					wantAsDefined(t, b)
				} else {
					wantError(t, b, api.ErrProto)
				}
			}
		}
	}
}

// P8.1: the same content is right as each protocol, and means something else as each.
func TestProtoSelects(t *testing.T) {
	// The pseudo header of TCP has the sum 65535, which makes no difference: so both sums that cover all are the same.
	const far = 65535 - 6 - 20
	b := []byte{
		0x45, 0, 0, 40, 0, 0, 0, 0, 64, 0, 0, 0, 0, 0, 0, 0, 0, 0, far / 256, far % 256,
		8, 0, 0, 0, 0, 20, 0, 0, 1, 2, 3, 4, 0x50, 0x11, 5, 6, 7, 8, 9, 10,
	}
	putWord(b, 22, 65535-slowSum(b[20:]))
	check := uint16(slowNumber(b[22:24]))
	for proto, want := range map[byte]parsed{
		1:   {api.Packet{Proto: 1, Dst: far, SPort: 20, DPort: 20, Kind: 8}, api.OK},
		6:   {api.Packet{Proto: 6, Dst: far, SPort: 0x0800, DPort: check, Flags: 0x11}, api.OK},
		17:  {api.Packet{Proto: 17, Dst: far, SPort: 0x0800, DPort: check}, api.OK},
		0:   {e: api.ErrProto},
		2:   {e: api.ErrProto},
		255: {e: api.ErrProto},
	} {
		b[9] = proto
		wantParse(t, mendHead(b), want)
	}
}

// P8.1: headers of each number of words, with options of which none is a part of the content.
func TestParseWithOptions(t *testing.T) {
	for words := 5; words < 16; words++ {
		for _, size := range []int{0, 1, 2, 19, 100, 1420} {
			for k, b := range all(words, size) {
				wantParse(t, b, wants[k])
				for i := 20; i < 4*words; i++ {
					b[i]++
					wantError(t, b, api.ErrSum)
					wantParse(t, mendHead(b), wants[k])
				}
			}
		}
	}
	for words := range 5 {
		for _, b := range all(5, 40) {
			b[0] = byte(64 + words)
			wantError(t, mendHead(b), api.ErrHead)
		}
	}
}

// P8.1: packets of each length up to the limit, which is that of all bytes.
func TestParseOfAllLengths(t *testing.T) {
	for size := range 1473 {
		for k, b := range all(5, size) {
			if len(b) > 1500 {
				wantError(t, b, api.ErrOver)
			} else {
				wantParse(t, b, wants[k])
			}
		}
	}
	for _, size := range []int{1473, 1474, 3000, 65000} {
		for _, b := range all(5, size) {
			wantError(t, b, api.ErrOver)
		}
	}
}

// P8.1: what bytes are behind the packet's end makes no difference, up to the limit.
func TestBytesBehindTheEnd(t *testing.T) {
	for _, words := range []int{5, 6, 15} {
		for _, size := range []int{0, 1, 2, 13} {
			for k, b := range all(words, size) {
				for _, c := range []byte{0, 1, 0x80, 0xff} {
					for _, total := range []int{len(b) + 1, len(b) + 2, len(b) + 3, 1499, 1500, 1501, 1502, 65536} {
						more := append(bytes.Clone(b), bytes.Repeat([]byte{c}, total-len(b))...)
						if total > 1500 {
							wantError(t, more, api.ErrOver)
							continue
						}
						wantParse(t, more, wants[k])
						more[len(b)-1]++ // the last byte that counts
						wantError(t, more, api.ErrSum)
					}
				}
			}
		}
	}
}

// P8.1: what is behind the packet's end does not make its content longer.
func TestBytesBehindDoNotCount(t *testing.T) {
	for _, words := range []int{5, 9} {
		for k, whole := range all(words, 6) {
			least := 4*words + 8
			if k == atTCP {
				least = 4*words + 20
			} else if k == atUDP {
				least = len(whole)
			}
			for end := 4 * words; end < len(whole); end++ {
				b := bytes.Clone(whole)
				putWord(b, 2, end)
				want := parsed{e: api.ErrSum}
				if end < least {
					want = parsed{e: api.ErrShort}
				}
				wantParse(t, mendHead(b), want)
				if end >= least {
					want = wants[k]
				}
				wantParse(t, mend(b), want)
			}
		}
	}
	c := segment(api.Ack, 8, 0)
	b := packet(6, 5, c)
	putWord(b, 2, 20+31)
	wantError(t, mend(b), api.ErrShort)
}

// P8.1: of UDP the datagram may end before the packet does, but not after it.
func TestLengthOfUDP(t *testing.T) {
	for said := range 60 {
		for _, end := range []int{20, 27, 28, 29, 40, 49, 50} {
			b := packet(17, 5, datagram(22))
			putWord(b, 2, end)
			putWord(b, 24, said)
			want := wants[atUDP]
			switch {
			case end < 28:
				want = parsed{e: api.ErrShort}
			case said < 8:
				want = parsed{e: api.ErrHead}
			case said > end-20:
				want = parsed{e: api.ErrShort}
			}
			wantParse(t, mend(b), want)
			if end >= 28 {
				putWord(b, 26, 0) // no checksum
				wantParse(t, b, want)
			}
			if want.e == api.OK {
				putWord(b, 26, 65535)
				wantError(t, b, api.ErrSum)
			}
		}
	}
}

// P8.1: of UDP a datagram without a checksum is right whatever it holds and between whatever addresses.
func TestWithoutChecksum(t *testing.T) {
	for _, words := range []int{5, 15} {
		for i := range 8 * 20 {
			b := all(words, 12)[atUDP]
			c := inside(b)
			putWord(c, 6, 0)
			c[i/8] ^= 1 << (i % 8)
			want := slowPacket(b)
			said := slowNumber(c[4:6])
			switch {
			case said < 8:
				want = parsed{e: api.ErrHead}
			case said > 20:
				want = parsed{e: api.ErrShort}
			case i/8 == 6, i/8 == 7: // it has a checksum again
				want = parsed{e: api.ErrSum}
			}
			wantParse(t, b, want)
		}
		for i := 12; i < 20; i++ {
			b := all(words, 12)[atUDP]
			putWord(inside(b), 6, 0)
			b[i] ^= 255
			wantParse(t, mendHead(b), slowPacket(b))
		}
	}
}

// P8.1: a packet that is cut off anywhere is too short.
func TestCutOff(t *testing.T) {
	for _, words := range []int{5, 7, 15} {
		for _, size := range []int{0, 1, 30, 1420} {
			for _, b := range all(words, size) {
				for n := range b {
					wantError(t, b[:n], api.ErrShort)
				}
			}
		}
	}
	for _, b := range [][]byte{knownSyn(), knownDiscover()} {
		for n := range b {
			wantError(t, b[:n], api.ErrShort)
		}
	}
}

// P8.1: a packet that is cut off, and whose header knows it.
func TestCutOffAndMended(t *testing.T) {
	for _, words := range []int{5, 15} {
		for k, whole := range all(words, 50) {
			for n := 4 * words; n < len(whole); n++ {
				b := bytes.Clone(whole[:n])
				putWord(b, 2, n)
				want := api.ErrSum
				least := map[byte]int{1: 8, 6: 20, 17: 58}[b[9]]
				if n-4*words < least {
					want = api.ErrShort
				}
				wantError(t, mendHead(b), want)
				if want == api.ErrSum {
					wantParse(t, mend(b), wants[k])
				}
			}
		}
	}
}

// P8.1: each single bit of a packet turned is an error.
func TestEachBitTurned(t *testing.T) {
	for _, words := range []int{5, 6, 15} {
		for _, size := range []int{0, 1, 40, 41} {
			for _, b := range all(words, size) {
				for i := range 8 * len(b) {
					b[i/8] ^= 1 << (i % 8)
					want := slowParse(b)
					if want.e == api.OK {
						t.Fatalf("bit %d: the reference is wrong", i)
					}
					if i/8 >= 4*words && b[9] == 1 {
						want = parsed{e: api.ErrSum}
					}
					wantParse(t, b, want)
					b[i/8] ^= 1 << (i % 8)
				}
			}
		}
	}
}

// P8.1: each single bit turned, with a checksum of the header that is right again, and with both.
func TestEachBitTurnedAndMended(t *testing.T) {
	for _, words := range []int{5, 6, 15} {
		for _, size := range []int{0, 1, 40, 41} {
			for k, whole := range all(words, size) {
				for i := range 8 * len(whole) {
					b := bytes.Clone(whole)
					b[i/8] ^= 1 << (i % 8)
					mendHead(b)
					wantAsDefined(t, b)
					if i/8 >= 12 && i/8 < 20 && k <= atUDP { // an address: a part of the sum
						wantError(t, b, api.ErrSum)
					}
					wantAsDefined(t, mend(b))
				}
			}
		}
	}
}

// P8.1: the bits of the header that make no difference, with a checksum that is right again.
func TestIgnoredBytesOfTheHeader(t *testing.T) {
	for _, at := range []int{1, 4, 5, 8} {
		for n := range 256 {
			for k, b := range all(5, 5) {
				b[at] = byte(n)
				wantParse(t, mendHead(b), wants[k])
			}
		}
	}
	for _, high := range []byte{0, 64, 128, 192} {
		for k, b := range all(5, 5) {
			b[6] = high
			wantParse(t, mendHead(b), wants[k])
		}
	}
}

// fault makes a right packet wrong in one way.
type fault struct {
	turn func(b []byte) []byte
	e    api.Errno
}

// headFaults are the errors of chapter 4, in its order.
func headFaults() []fault {
	return []fault{
		{func(b []byte) []byte { return append(b, make([]byte, 1501-len(b))...) }, api.ErrOver},
		{func(b []byte) []byte { return b[:19] }, api.ErrShort},
		{func(b []byte) []byte { b[0] += 16; return mendHead(b) }, api.ErrVersion},
		{func(b []byte) []byte { b[0] = 0x44; return mendHead(b) }, api.ErrHead},
		{func(b []byte) []byte { b[0] = 0x4f; return b[:59] }, api.ErrShort},
		{func(b []byte) []byte { putWord(b, 2, 19); return mendHead(b) }, api.ErrShort},
		{func(b []byte) []byte { putWord(b, 2, len(b)+1); return mendHead(b) }, api.ErrShort},
		{func(b []byte) []byte { b[11]++; return b }, api.ErrSum},
		{func(b []byte) []byte { b[6] |= 32; return mendHead(b) }, api.ErrFrag},
		{func(b []byte) []byte { b[7] = 1; return mendHead(b) }, api.ErrFrag},
	}
}

// tcpFaults are the errors of chapter 5, in its order.
func tcpFaults() []fault {
	return []fault{
		{func(b []byte) []byte { putWord(b, 2, 20); return mend(b) }, api.ErrShort},
		{func(b []byte) []byte { putWord(b, 2, 39); return mend(b) }, api.ErrShort},
		{func(b []byte) []byte { b[32] = 0x40; return mend(b) }, api.ErrHead},
		{func(b []byte) []byte { b[32] = 0xf0; putWord(b, 2, 79); return mend(b) }, api.ErrShort},
		{func(b []byte) []byte { b[37]++; return b }, api.ErrSum},
		{func(b []byte) []byte { b[len(b)-1]++; return b }, api.ErrSum},
		{func(b []byte) []byte { b[15]++; return mendHead(b) }, api.ErrSum},
		{func(b []byte) []byte { b[33] = 3; return mend(b) }, api.ErrFlags},
		{func(b []byte) []byte { b[33] = 0; return mend(b) }, api.ErrFlags},
	}
}

// udpFaults are the errors of chapter 6, in its order.
func udpFaults() []fault {
	return []fault{
		{func(b []byte) []byte { putWord(b, 2, 20); return mend(b) }, api.ErrShort},
		{func(b []byte) []byte { putWord(b, 2, 27); return mend(b) }, api.ErrShort},
		{func(b []byte) []byte { putWord(b, 24, 7); return mend(b) }, api.ErrHead},
		{func(b []byte) []byte { putWord(b, 24, len(b)-19); return mend(b) }, api.ErrShort},
		{func(b []byte) []byte { b[27]++; return b }, api.ErrSum},
		{func(b []byte) []byte { b[len(b)-1]++; return b }, api.ErrSum},
		{func(b []byte) []byte { b[19]++; return mendHead(b) }, api.ErrSum},
	}
}

// icmpFaults are the errors of chapter 7, in its order.
func icmpFaults() []fault {
	return []fault{
		{func(b []byte) []byte { putWord(b, 2, 20); return mend(b) }, api.ErrShort},
		{func(b []byte) []byte { putWord(b, 2, 27); return mend(b) }, api.ErrShort},
		{func(b []byte) []byte { b[23]++; return b }, api.ErrSum},
		{func(b []byte) []byte { b[len(b)-1]++; return b }, api.ErrSum},
		{func(b []byte) []byte { b[20] = 3; return mend(b) }, api.ErrKind},
		{func(b []byte) []byte { b[21] = 1; return mend(b) }, api.ErrKind},
	}
}

// contentFaults are the errors of each of the packets of all.
func contentFaults() [][]fault {
	return [][]fault{tcpFaults(), udpFaults(), icmpFaults(), icmpFaults()}
}

// otherProto makes every packet one of another protocol.
func otherProto(b []byte) []byte {
	b[9] = 47
	return mendHead(b)
}

// P8.1 and R3: each error alone, of each of the chapters, and the zero Packet beside it.
func TestEachError(t *testing.T) {
	for _, size := range []int{60, 61} {
		for k, faults := range contentFaults() {
			wantParse(t, all(5, size)[k], wants[k])
			for _, f := range append(headFaults(), faults...) {
				wantError(t, f.turn(all(5, size)[k]), f.e)
			}
			wantError(t, otherProto(all(5, size)[k]), api.ErrProto)
		}
	}
}

// P8.1 and R2: an error of the header comes before every error behind it, and before an unknown protocol.
func TestHeaderComesFirst(t *testing.T) {
	for k, faults := range contentFaults() {
		for _, h := range headFaults() {
			wantError(t, h.turn(otherProto(all(5, 60)[k])), h.e)
			for _, f := range faults {
				wantError(t, h.turn(f.turn(all(5, 60)[k])), h.e)
			}
		}
	}
}

// P8.1 and R2: an unknown protocol comes before whatever is wrong with the content.
func TestProtoComesBeforeTheContent(t *testing.T) {
	for k, faults := range contentFaults() {
		for _, f := range faults {
			wantError(t, otherProto(f.turn(all(5, 60)[k])), api.ErrProto)
		}
	}
}

// P8.1 and R2: of several errors of the content, the one that its chapter names first.
func TestOrderWithinTheContent(t *testing.T) {
	for _, c := range []struct {
		proto byte
		c     []byte
		e     api.Errno
	}{
		{6, make([]byte, 19), api.ErrShort},                                    // of TCP: and a header that is too short
		{6, make([]byte, 20), api.ErrHead},                                     // and a wrong sum, and flags
		{6, append(make([]byte, 12), 0x60, 0, 0, 0, 0, 0, 0, 0), api.ErrShort}, // and a wrong sum, and flags
		{6, append(make([]byte, 12), 0x50, 0, 0, 0, 0, 0, 0, 0), api.ErrSum},   // and flags
		{17, []byte{0, 0, 0, 0, 0, 0, 1}, api.ErrShort},                        // of UDP: and a length below 8
		{17, []byte{0, 0, 0, 0, 0, 7, 0, 1}, api.ErrHead},                      // and a wrong sum
		{17, []byte{0, 0, 0, 0, 0, 9, 0, 1}, api.ErrShort},                     // and a wrong sum
		{17, []byte{0, 0, 0, 0, 0, 8, 0, 1}, api.ErrSum},                       // alone
		{1, []byte{3, 1, 0, 0, 0, 0, 0}, api.ErrShort},                         // of ICMP: and a wrong sum, a kind and a code
		{1, []byte{3, 1, 0, 0, 0, 0, 0, 0}, api.ErrSum},                        // and a kind and a code
		{1, []byte{3, 1, 0xfc, 0xfe, 0, 0, 0, 0}, api.ErrKind},                 // alone
		{1, bytes.Repeat([]byte{255}, 8), api.ErrKind},                         // alone
		{1, make([]byte, 8), api.ErrSum},                                       // alone
	} {
		b := append(packet(c.proto, 5, nil), c.c...)
		putWord(b, 2, len(b))
		wantError(t, mendHead(b), c.e)
	}
}

// P8.1: what the Build functions of the chapters make is parsed, with what it was made of.
func TestParseWhatIsBuilt(t *testing.T) {
	random := rand.New(rand.NewSource(8))
	for range 3000 {
		src, dst := random.Uint32(), random.Uint32()
		source, destination := uint16(random.Uint32()), uint16(random.Uint32())
		flags := []uint8{2, 18, 16, 17, 4, 20, 24, 25, 48}[random.Intn(9)]
		kind := []uint8{0, 8}[random.Intn(2)]
		c := make([]byte, random.Intn(60))
		random.Read(c)
		s, _ := tcp.Build(src, dst, source, destination, flags, c)
		d, _ := udp.Build(src, dst, source, destination, c)
		m, _ := icmp.Build(kind, source, c)
		for _, x := range []struct {
			content []byte
			want    api.Packet
		}{
			{s, api.Packet{Proto: 6, Src: src, Dst: dst, SPort: source, DPort: destination, Flags: flags}},
			{d, api.Packet{Proto: 17, Src: src, Dst: dst, SPort: source, DPort: destination}},
			{m, api.Packet{Proto: 1, Src: src, Dst: dst, SPort: source, DPort: source, Kind: kind}},
		} {
			h := api.Head{Proto: x.want.Proto, Src: src, Dst: dst, TTL: uint8(random.Intn(256)), ID: uint16(random.Uint32())}
			b, e := ip.Build(h, x.content)
			if e != api.OK {
				t.Fatal(e)
			}
			wantParse(t, b, parsed{x.want, api.OK})
		}
	}
}

// P8.1: arbitrary bytes, many of them nearly a packet, held against the document's definition.
func TestArbitraryBytes(t *testing.T) {
	random := rand.New(rand.NewSource(81))
	type occurred struct {
		proto byte
		e     api.Errno
	}
	seen := map[occurred]int{}
	for range 200000 {
		b := arbitrary(random)
		want := slowParse(b)
		if slowHead(b) == api.OK {
			seen[occurred{b[9], want.e}]++
		}
		wantParse(t, b, want)
	}
	for _, x := range []occurred{
		{6, api.OK}, {6, api.ErrShort}, {6, api.ErrHead}, {6, api.ErrSum}, {6, api.ErrFlags},
		{17, api.OK}, {17, api.ErrShort}, {17, api.ErrHead}, {17, api.ErrSum},
		{1, api.OK}, {1, api.ErrShort}, {1, api.ErrSum}, {1, api.ErrKind},
		{2, api.ErrProto},
	} {
		if seen[x] == 0 {
			t.Errorf("%+v did not occur", x)
		}
	}
}

// arbitrary returns random bytes: few of them any, most the header of a packet with anything behind it, and often checksums that are right.
func arbitrary(random *rand.Rand) []byte {
	b := make([]byte, random.Intn(120))
	random.Read(b)
	if len(b) < 20 || random.Intn(10) == 0 {
		return b
	}
	words := 5 + random.Intn(3)
	b[0], b[6], b[7] = byte(64+words), 0, 0
	b[9] = []byte{1, 6, 17, 2, byte(random.Intn(256))}[random.Intn(5)]
	putWord(b, 2, max(0, len(b)-random.Intn(4)))
	if c := inside(b); len(c) >= 14 && random.Intn(5) > 0 {
		switch b[9] {
		case 1:
			putWord(c, 0, []int{0, 8 * 256, random.Intn(65536)}[random.Intn(3)])
		case 6:
			c[12], c[13] = byte(16*(4+random.Intn(4))+random.Intn(16)), byte(random.Intn(256))
		case 17:
			putWord(c, 4, []int{len(c), random.Intn(len(c) + 2)}[random.Intn(2)])
		}
	}
	if random.Intn(4) > 0 {
		mendContent(b)
	}
	if random.Intn(8) > 0 {
		mendHead(b)
	}
	return b
}

// P8.1 and R4: only the bytes within the length count, and nothing changes, within it or behind it, right or wrong.
func TestSpareCapacity(t *testing.T) {
	for _, words := range []int{5, 8} {
		for size := range 20 {
			for k, b := range all(words, size) {
				room := append(bytes.Clone(b), filled(1600)...)
				before := bytes.Clone(room)
				wantParse(t, room[:len(b)], wants[k])
				wantError(t, room[:len(b)-1], api.ErrShort)
				wantError(t, room[:0], api.ErrShort)
				wantError(t, room[:1501], api.ErrOver)
				if !bytes.Equal(room, before) {
					t.Fatal("the argument has changed")
				}
			}
		}
	}
}

// R4: Parse leaves its argument as it is, beside each of its errors.
func TestParseLeavesItsArgument(t *testing.T) {
	for k, faults := range contentFaults() {
		for _, f := range append(headFaults(), faults...) {
			b := f.turn(all(5, 60)[k])
			room := b[:cap(b)]
			before := bytes.Clone(room)
			Parse(b)
			if !bytes.Equal(room, before) {
				t.Fatal("the argument has changed")
			}
		}
	}
}

// R4 and R5: what was parsed before makes no difference, nor what becomes of its bytes.
func TestNothingIsKept(t *testing.T) {
	for k, faults := range contentFaults() {
		for j := range wants {
			b := all(5, 60)[j]
			got := parse(b)
			clear(b)
			wantParse(t, all(6, 3)[k], wants[k])
			for _, f := range faults {
				wantError(t, f.turn(all(5, 60)[k]), f.e)
				wantParse(t, all(5, 60)[j], wants[j])
			}
			if got != wants[j] {
				t.Fatalf("a result has changed: %+v", got)
			}
		}
	}
}
