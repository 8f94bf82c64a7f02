package pack

import (
	"bytes"
	"math"
	"math/rand"
	"testing"

	"mantlet/api"
	"mantlet/icmp"
	"mantlet/ip"
	"mantlet/tcp"
	"mantlet/udp"
	"mantlet/wire"
)

// What most packets here say.
const (
	one   = 0x0a000001
	two   = 0xc0a8fe97
	from  = 0x1234
	to    = 0x5678
	ident = 0x9abc
)

// sizes are the longest contents, by protocol.
var sizes = map[uint8]int{1: 1472, 6: 1460, 17: 1472}

// edges are words at which a lost byte shows.
var edges = []int{0, 1, 0x7f, 0x80, 0xff, 0x100, 0x1234, 0x7fff, 0x8000, 0xff00, 0xfffe, 0xffff}

// slowFlags reports whether flags are consistent, and among those that TCP has here.
func slowFlags(flags uint8) bool {
	fin, syn, rst, ack := int(flags%2), int(flags/2%2), int(flags/4%2), int(flags/16%2)
	return fin+syn+rst <= 1 && syn+rst+ack >= 1 && flags < 64
}

// slowGood reports whether a packet is valid, as the document defines it.
func slowGood(p api.Packet) bool {
	isTCP := p.Proto == 6 && slowFlags(p.Flags) && p.Kind == 0
	isUDP := p.Proto == 17 && p.Flags == 0 && p.Kind == 0
	isICMP := p.Proto == 1 && (p.Kind == 8 || p.Kind == 0) && p.Flags == 0 && p.SPort == p.DPort
	return isTCP || isUDP || isICMP
}

// slowNumber is the number in all bytes of b, most significant first.
func slowNumber(b []byte) int {
	n := 0
	for _, c := range b {
		n = 256*n + int(c)
	}
	return n
}

// slowSum is the sum with carry of the words of b; a zero byte follows an odd last one.
func slowSum(b []byte) int {
	total := 0
	for i := 0; i < len(b); i += 2 {
		total += 256 * int(b[i])
		if i+1 < len(b) {
			total += int(b[i+1])
		}
		if total > 65535 {
			total -= 65535
		}
	}
	return total
}

// putWord stores a number in two bytes.
func putWord(b []byte, at, n int) {
	b[at], b[at+1] = byte(n/256), byte(n%256)
}

// putAddress stores an address in four bytes.
func putAddress(b []byte, at int, a uint32) {
	putWord(b, at, int(a/65536))
	putWord(b, at+2, int(a%65536))
}

// slowInside are the bytes of a valid packet behind its header, but for their checksum, and the place of this.
func slowInside(p api.Packet, content []byte) ([]byte, int) {
	var c []byte
	at := 0
	switch p.Proto {
	case 6:
		c, at = make([]byte, 20), 16
		c[12], c[13] = 5*16, p.Flags
	case 17:
		c, at = make([]byte, 8), 6
		putWord(c, 4, 8+len(content))
	case 1:
		c, at = make([]byte, 8), 2
		c[0] = p.Kind
		putWord(c, 4, int(p.SPort))
		return append(c, content...), at
	}
	putWord(c, 0, int(p.SPort))
	putWord(c, 2, int(p.DPort))
	return append(c, content...), at
}

// slowBuild are the bytes of a valid packet, as the document's chapters define them.
func slowBuild(p api.Packet, content []byte) []byte {
	c, at := slowInside(p, content)
	b := make([]byte, 20)
	b[0], b[8], b[9] = 4*16+5, 64, p.Proto
	putWord(b, 2, 20+len(c))
	putAddress(b, 12, p.Src)
	putAddress(b, 16, p.Dst)
	covered := bytes.Clone(c)
	if p.Proto != 1 {
		covered = append(append(bytes.Clone(b[12:20]), 0, p.Proto, byte(len(c)/256), byte(len(c)%256)), c...)
	}
	check := 65535 - slowSum(covered)
	if p.Proto == 17 && check == 0 {
		check = 65535
	}
	putWord(c, at, check)
	putWord(b, 10, 65535-slowSum(b))
	return append(b, c...)
}

// filled returns so many bytes, of which neighbours differ.
func filled(size int) []byte {
	b := make([]byte, size)
	for i := range b {
		b[i] = byte(37*i + i/256 + 11)
	}
	return b
}

// goods returns a valid packet of each protocol and kind.
func goods() []api.Packet {
	return []api.Packet{
		{Proto: 6, Src: one, Dst: two, SPort: from, DPort: to, Flags: api.Syn | api.Ack},
		{Proto: 17, Src: one, Dst: two, SPort: from, DPort: to},
		{Proto: 1, Src: one, Dst: two, SPort: ident, DPort: ident, Kind: api.Echo},
		{Proto: 1, Src: one, Dst: two, SPort: ident, DPort: ident, Kind: api.EchoReply},
	}
}

// bads returns packets that are not valid, most of them in one way alone.
func bads() []api.Packet {
	return []api.Packet{
		{},
		{Src: one, Dst: two, SPort: from, DPort: to},
		{Proto: 6, Src: one, Dst: two, SPort: from, DPort: to},                                        // no flags
		{Proto: 6, Src: one, Dst: two, SPort: from, DPort: to, Flags: api.Fin},                        // without Ack
		{Proto: 6, Src: one, Dst: two, SPort: from, DPort: to, Flags: api.Psh | api.Urg},              // without Ack
		{Proto: 6, Src: one, Dst: two, SPort: from, DPort: to, Flags: api.Syn | api.Fin},              // two of three
		{Proto: 6, Src: one, Dst: two, SPort: from, DPort: to, Flags: api.Syn | api.Rst | api.Ack},    // two of three
		{Proto: 6, Src: one, Dst: two, SPort: from, DPort: to, Flags: api.Fin | api.Rst | api.Ack},    // two of three
		{Proto: 6, Src: one, Dst: two, SPort: from, DPort: to, Flags: api.Ack | 64},                   // consistent, but 64
		{Proto: 6, Src: one, Dst: two, SPort: from, DPort: to, Flags: api.Syn | 128},                  // consistent, but 128
		{Proto: 6, Src: one, Dst: two, SPort: from, DPort: to, Flags: api.Rst | 64 | 128},             // consistent, but both
		{Proto: 6, Src: one, Dst: two, SPort: from, DPort: to, Flags: api.Ack, Kind: 1},               // a kind
		{Proto: 6, Src: one, Dst: two, SPort: from, DPort: from, Flags: api.Ack, Kind: 8},             // a kind, of ICMP
		{Proto: 17, Src: one, Dst: two, SPort: from, DPort: to, Flags: api.Syn},                       // flags
		{Proto: 17, Src: one, Dst: two, SPort: from, DPort: to, Flags: 128},                           // flags
		{Proto: 17, Src: one, Dst: two, SPort: from, DPort: from, Kind: 8},                            // a kind
		{Proto: 1, Src: one, Dst: two, SPort: ident, DPort: ident, Kind: 3},                           // another kind
		{Proto: 1, Src: one, Dst: two, SPort: ident, DPort: ident, Kind: 255},                         // another kind
		{Proto: 1, Src: one, Dst: two, SPort: ident, DPort: ident, Kind: 8, Flags: api.Ack},           // flags
		{Proto: 1, Src: one, Dst: two, SPort: ident, DPort: ident, Flags: 64},                         // flags
		{Proto: 1, Src: one, Dst: two, SPort: ident, DPort: ident + 1, Kind: 8},                       // two identifiers
		{Proto: 1, Src: one, Dst: two, SPort: 0, DPort: ident},                                        // two identifiers
		{Proto: 2, Src: one, Dst: two, SPort: ident, DPort: ident},                                    // another protocol
		{Proto: 255, Src: one, Dst: two, SPort: ident, DPort: ident, Flags: api.Syn, Kind: 8},         // another protocol
		{Proto: 47, Src: one, Dst: two, SPort: from, DPort: to, Flags: api.Ack},                       // another protocol
		{Proto: 128 + 6, Src: one, Dst: two, SPort: from, DPort: to, Flags: api.Ack},                  // another protocol
		{Proto: 6, Src: one, Dst: two, SPort: ident, DPort: ident, Kind: 8, Flags: api.Syn | api.Rst}, // all of it
	}
}

// wantBuild holds Good and Build against the document's definition, and the bytes against chapter 8's Parse.
func wantBuild(t *testing.T, p api.Packet, content []byte) {
	t.Helper()
	if !Good(p) {
		t.Fatalf("Good(%+v) = false", p)
	}
	b, e := Build(p, content)
	if want := slowBuild(p, content); !bytes.Equal(b, want) || e != api.OK {
		t.Fatalf("Build(%+v, %d bytes) = %x, %d, want %x", p, len(content), b[:min(len(b), 60)], e, want[:min(len(want), 60)])
	}
	if got, e := wire.Parse(b); got != p || e != api.OK {
		t.Fatalf("Parse(Build(%+v, %d bytes)) = %+v, %d", p, len(content), got, e)
	}
}

// wantError wants an error of Build, and no bytes beside it.
func wantError(t *testing.T, p api.Packet, content []byte, e api.Errno) {
	t.Helper()
	if b, got := Build(p, content); got != e || len(b) != 0 {
		t.Fatalf("Build(%+v, %d bytes) = %d bytes, %d, want %d", p, len(content), len(b), got, e)
	}
}

// P9.1: packets of each protocol, and ones that are not valid.
func TestGoodKnown(t *testing.T) {
	for _, p := range goods() {
		if !Good(p) {
			t.Errorf("%+v", p)
		}
	}
	for _, p := range bads() {
		if Good(p) {
			t.Errorf("%+v", p)
		}
	}
}

// P9.1: every Proto with all flags and every kind, with equal ports and with others.
func TestGoodOfEverything(t *testing.T) {
	for proto := range 256 {
		for flags := range 256 {
			for kind := range 256 {
				p := api.Packet{Proto: uint8(proto), Src: one, Dst: two, SPort: ident, DPort: ident, Flags: uint8(flags), Kind: uint8(kind)}
				q := p
				q.DPort = to
				if Good(p) != slowGood(p) || Good(q) != slowGood(q) {
					t.Fatalf("Good(%+v) = %t, with other ports %t", p, Good(p), Good(q))
				}
			}
		}
	}
}

// P9.1: how many packets are valid: of TCP 6 choices of Fin, Syn, Rst and Ack (Syn, Rst and Ack alone, and Ack with one of the three),
// each with any of Psh and Urg; of UDP one; of ICMP two.
func TestGoodCounted(t *testing.T) {
	counts := map[uint8]int{}
	for proto := range 256 {
		for flags := range 256 {
			for kind := range 256 {
				if Good(api.Packet{Proto: uint8(proto), Flags: uint8(flags), Kind: uint8(kind)}) {
					counts[uint8(proto)]++
				}
			}
		}
	}
	if len(counts) != 3 || counts[6] != 24 || counts[17] != 1 || counts[1] != 2 {
		t.Error(counts)
	}
}

// P9.1: of ICMP the ports must be equal in every bit; of TCP and UDP any ports will do.
func TestGoodOfPorts(t *testing.T) {
	for _, p := range goods() {
		for port := range 65536 {
			p.SPort, p.DPort = uint16(port), uint16(port)
			if !Good(p) {
				t.Fatalf("%+v", p)
			}
			for i := range 16 {
				p.DPort = uint16(port) ^ 1<<i
				if Good(p) != (p.Proto != 1) {
					t.Fatalf("%+v", p)
				}
			}
		}
	}
}

// P9.1: the addresses make no difference.
func TestGoodOfAddresses(t *testing.T) {
	for _, a := range []uint32{0, 1, one, two, 1 << 31, math.MaxUint32} {
		for _, b := range []uint32{0, 1, one, two, 1 << 31, math.MaxUint32} {
			for _, p := range append(goods(), bads()...) {
				want := Good(p)
				p.Src, p.Dst = a, b
				if Good(p) != want {
					t.Errorf("%+v", p)
				}
			}
		}
	}
}

// head is the header of a packet from 10.0.0.1 to 10.0.0.2, written out: its length, its protocol and its checksum.
func head(size int, proto byte, check int) []byte {
	return []byte{0x45, 0, 0, byte(size), 0, 0, 0, 0, 64, proto, byte(check / 256), byte(check % 256), 10, 0, 0, 1, 10, 0, 0, 2}
}

// known is a packet, its content, and all of its bytes, worked out apart from the program.
type known struct {
	p       api.Packet
	content []byte
	want    []byte
}

// knownSegments are packets of TCP.
func knownSegments() []known {
	syn := api.Packet{Proto: 6, Src: 0x0a000001, Dst: 0x0a000002, SPort: 1025, DPort: 80, Flags: 2}
	push := syn
	push.Flags = api.Psh | api.Ack
	return []known{
		{syn, nil, append(head(40, 6, 0x66ce), 4, 1, 0, 80, 0, 0, 0, 0, 0, 0, 0, 0, 0x50, 2, 0, 0, 0x97, 0x8f, 0, 0)},
		{push, []byte{7, 8, 9}, append(head(43, 6, 0x66cb), 4, 1, 0, 80, 0, 0, 0, 0, 0, 0, 0, 0, 0x50, 24, 0, 0, 0x87, 0x6e, 0, 0, 7, 8, 9)},
		{push, []byte{7, 8, 9, 1}, append(head(44, 6, 0x66ca), 4, 1, 0, 80, 0, 0, 0, 0, 0, 0, 0, 0, 0x50, 24, 0, 0, 0x87, 0x6c, 0, 0, 7, 8, 9, 1)},
	}
}

// knownDatagrams are packets of UDP; the last one's checksum would be 0.
func knownDatagrams() []known {
	p := api.Packet{Proto: 17, Src: 0x0a000001, Dst: 0x0a000002, SPort: 1025, DPort: 53}
	return []known{
		{p, nil, append(head(28, 17, 0x66cf), 4, 1, 0, 53, 0, 8, 0xe7, 0xa5)},
		{p, []byte{7, 8, 9}, append(head(31, 17, 0x66cc), 4, 1, 0, 53, 0, 11, 0xd7, 0x97, 7, 8, 9)},
		{p, []byte{7, 8, 9, 1}, append(head(32, 17, 0x66cb), 4, 1, 0, 53, 0, 12, 0xd7, 0x94, 7, 8, 9, 1)},
		{api.Packet{Proto: 17}, []byte{0xff, 0xda}, []byte{
			0x45, 0, 0, 30, 0, 0, 0, 0, 64, 17, 0x7a, 0xd0, 0, 0, 0, 0, 0, 0, 0, 0,
			0, 0, 0, 0, 0, 10, 0xff, 0xff, 0xff, 0xda,
		}},
	}
}

// knownMessages are packets of ICMP; the last one's own bytes are all 0 but for the checksum.
func knownMessages() []known {
	p := api.Packet{Proto: 1, Src: 0x0a000001, Dst: 0x0a000002, SPort: 1, DPort: 1, Kind: 8}
	reply := api.Packet{Proto: 1, Src: 0x0a000001, Dst: 0x0a000002, SPort: 0xabcd, DPort: 0xabcd}
	return []known{
		{p, nil, append(head(28, 1, 0x66df), 8, 0, 0xf7, 0xfe, 0, 1, 0, 0)},
		{p, []byte{7, 8, 9}, append(head(31, 1, 0x66dc), 8, 0, 0xe7, 0xf6, 0, 1, 0, 0, 7, 8, 9)},
		{reply, []byte{7, 8, 9, 1}, append(head(32, 1, 0x66db), 0, 0, 0x44, 0x29, 0xab, 0xcd, 0, 0, 7, 8, 9, 1)},
		{api.Packet{Proto: 1}, nil, []byte{
			0x45, 0, 0, 28, 0, 0, 0, 0, 64, 1, 0x7a, 0xe2, 0, 0, 0, 0, 0, 0, 0, 0,
			0, 0, 0xff, 0xff, 0, 0, 0, 0,
		}},
	}
}

// P9.1 and P9.2: every byte of packets whose checksums are written out as numbers.
func TestBuildKnown(t *testing.T) {
	for _, list := range [][]known{knownSegments(), knownDatagrams(), knownMessages()} {
		for _, k := range list {
			if b, e := Build(k.p, k.content); !bytes.Equal(b, k.want) || e != api.OK {
				t.Errorf("%+v: %x, %d, want %x", k.p, b, e, k.want)
			}
			wantBuild(t, k.p, k.content)
		}
	}
}

// P9.1: the fields of the header that are the same in every packet, for every protocol.
func TestBuildHeader(t *testing.T) {
	for _, p := range goods() {
		for size := range 9 {
			b, e := Build(p, filled(size))
			if e != api.OK || b[0] != 0x45 || b[1] != 0 || slowNumber(b[2:4]) != len(b) || slowNumber(b[4:8]) != 0 || b[8] != 64 || b[9] != p.Proto {
				t.Errorf("%+v: %x, %d", p, b, e)
			}
			if slowSum(b[:20]) != 65535 || slowNumber(b[12:16]) != one || slowNumber(b[16:20]) != two {
				t.Errorf("%+v: %x", p, b)
			}
			h, content, e := ip.Parse(b)
			if want := (api.Head{Proto: p.Proto, Src: one, Dst: two, Size: 20, Len: len(b), TTL: 64}); h != want || e != api.OK {
				t.Errorf("%+v: %+v, %d", p, h, e)
			}
			if !bytes.HasSuffix(content, filled(size)) {
				t.Errorf("%+v: %x", p, content)
			}
		}
	}
}

// P9.1: what is behind the header is what the chapter of the protocol builds.
func TestBuildInside(t *testing.T) {
	for _, size := range []int{0, 1, 2, 33, 1460} {
		c := filled(size)
		s, _ := tcp.Build(one, two, from, to, api.Syn|api.Ack, c)
		d, _ := udp.Build(one, two, from, to, c)
		echo, _ := icmp.Build(api.Echo, ident, c)
		reply, _ := icmp.Build(api.EchoReply, ident, c)
		for i, want := range [][]byte{s, d, echo, reply} {
			p := goods()[i]
			if b, e := Build(p, c); e != api.OK || !bytes.Equal(b[20:], want) {
				t.Errorf("%+v, %d bytes: %x, %d", p, size, b, e)
			}
		}
	}
}

// P9.1 and P9.2: every bit of the addresses and of the ports, alone and as the only one that is not set.
func TestBuildFields(t *testing.T) {
	for _, p := range goods() {
		for i := range 32 {
			q := p
			q.Src, q.Dst = 1<<i, 0
			wantBuild(t, q, filled(3))
			q.Src, q.Dst = 0, 1<<i
			wantBuild(t, q, filled(4))
			q.Src, q.Dst = ^uint32(1<<i), math.MaxUint32
			wantBuild(t, q, nil)
			q.Src, q.Dst = math.MaxUint32, ^uint32(1<<i)
			wantBuild(t, q, filled(1))
		}
		for _, x := range edges {
			for _, y := range edges {
				q := p
				q.SPort, q.DPort = uint16(x), uint16(y)
				if p.Proto == 1 {
					q.DPort = q.SPort
				}
				wantBuild(t, q, filled(5))
			}
		}
	}
}

// P9.1 and P9.2: all ports and identifiers, and with them all checksums.
func TestBuildPorts(t *testing.T) {
	for _, p := range goods() {
		for n := range 65536 {
			p.SPort = uint16(n)
			if p.Proto == 1 {
				p.DPort = p.SPort
			}
			wantBuild(t, p, []byte{1, 2, 3})
		}
	}
}

// P9.1 and P9.2: all flags and kinds of every Proto, built or refused.
func TestBuildOfEverything(t *testing.T) {
	for proto := range 256 {
		for flags := range 256 {
			for _, kind := range []uint8{0, 1, 3, 8, 9, 128, 136, 255} {
				p := api.Packet{Proto: uint8(proto), Src: one, Dst: two, SPort: ident, DPort: ident, Flags: uint8(flags), Kind: kind}
				if slowGood(p) {
					wantBuild(t, p, filled(2))
					wantBuild(t, p, filled(7))
				} else {
					wantError(t, p, filled(2), api.ErrArg)
				}
			}
		}
	}
}

// P9.1 and P9.2: all kinds of ICMP, with ports that are equal and with ones that differ in one bit.
func TestBuildKinds(t *testing.T) {
	for kind := range 256 {
		p := api.Packet{Proto: 1, Src: one, Dst: two, SPort: ident, DPort: ident, Kind: uint8(kind)}
		if kind == 0 || kind == 8 {
			wantBuild(t, p, filled(3))
		} else {
			wantError(t, p, filled(3), api.ErrArg)
		}
		for i := range 16 {
			p.DPort = ident ^ 1<<i
			wantError(t, p, filled(3), api.ErrArg)
		}
	}
}

// P9.1 and P9.2: contents of every length up to the longest, and longer ones.
func TestBuildOfAllLengths(t *testing.T) {
	for _, p := range goods() {
		longest := sizes[p.Proto]
		content := filled(longest + 100)
		for size := range longest + 1 {
			wantBuild(t, p, content[:size])
		}
		for size := longest + 1; size <= longest+100; size++ {
			wantError(t, p, content[:size], api.ErrOver)
		}
		for _, size := range []int{1 << 14, 65507, 65508, 65515, 65516, 65527, 65535, 65536, 65537, 66996, 67008, 1 << 17} {
			wantError(t, p, make([]byte, size), api.ErrOver)
		}
	}
}

// P9.1: with the longest content a packet has as many bytes as there may be, so that chapter 4's Build never has an error of its own.
func TestBuildLongest(t *testing.T) {
	for _, p := range goods() {
		for _, c := range []byte{0, 1, 255} {
			content := bytes.Repeat([]byte{c}, sizes[p.Proto])
			wantBuild(t, p, content)
			if b, _ := Build(p, content); len(b) != api.MaxBytes {
				t.Errorf("%+v: %d bytes", p, len(b))
			}
			wantError(t, p, append(content, c), api.ErrOver)
		}
	}
}

// P9.1: no content is as good as an empty one.
func TestBuildWithoutContent(t *testing.T) {
	for _, p := range goods() {
		for _, content := range [][]byte{nil, {}, make([]byte, 0, 100), filled(100)[:0]} {
			wantBuild(t, p, content)
		}
	}
}

// P9.1 and R2: what is not valid is ErrArg, whatever the content is.
func TestNotValidComesFirst(t *testing.T) {
	for _, p := range bads() {
		for _, size := range []int{0, 1, 1460, 1461, 1472, 1473, 1480, 1481, 1500, 1501, 65536} {
			wantError(t, p, make([]byte, size), api.ErrArg)
		}
		wantError(t, p, nil, api.ErrArg)
	}
}

// P9.1 and R2: Good and Build agree: a packet that is not good is ErrArg, and no other one.
func TestGoodAndBuildAgree(t *testing.T) {
	random := rand.New(rand.NewSource(9))
	counts := map[api.Errno]int{}
	for range 200000 {
		p := arbitrary(random)
		size := []int{0, 5, 1460, 1461, 1472, 1473}[random.Intn(6)]
		b, e := Build(p, filled(size))
		want := api.OK
		if !slowGood(p) {
			want = api.ErrArg
		} else if size > sizes[p.Proto] {
			want = api.ErrOver
		}
		if e != want || Good(p) != slowGood(p) || (len(b) == 0) != (want != api.OK) {
			t.Fatalf("%+v, %d bytes: %d bytes, %d, want %d", p, size, len(b), e, want)
		}
		counts[e]++
	}
	for _, e := range []api.Errno{api.OK, api.ErrArg, api.ErrOver} {
		if counts[e] < 1000 {
			t.Errorf("error %d occurred %d times", e, counts[e])
		}
	}
}

// arbitrary returns any packet, often a valid one or nearly so.
func arbitrary(random *rand.Rand) api.Packet {
	p := api.Packet{
		Proto: []uint8{1, 6, 17, uint8(random.Intn(256))}[random.Intn(4)],
		Src:   random.Uint32(),
		Dst:   random.Uint32(),
		SPort: uint16(random.Uint32()),
		DPort: uint16(random.Uint32()),
	}
	if p.Proto == 6 || random.Intn(8) == 0 {
		p.Flags = uint8(random.Intn(256))
	}
	if p.Proto == 1 || random.Intn(8) == 0 {
		p.Kind = []uint8{0, 8, uint8(random.Intn(256))}[random.Intn(3)]
	}
	if p.Proto == 1 && random.Intn(4) > 0 {
		p.DPort = p.SPort
	}
	return p
}

// P9.1 and P9.2: arbitrary valid packets and contents, built and parsed again.
func TestBuildOfArbitraryPackets(t *testing.T) {
	random := rand.New(rand.NewSource(92))
	seen := map[uint8]int{}
	for range 60000 {
		p := arbitrary(random)
		if !slowGood(p) {
			continue
		}
		content := make([]byte, random.Intn(60))
		random.Read(content)
		wantBuild(t, p, content)
		seen[p.Proto]++
	}
	if seen[1] < 1000 || seen[6] < 1000 || seen[17] < 1000 {
		t.Error(seen)
	}
}

// P9.2: chapter 8's Parse returns what the packet says for contents of one byte repeated, whose sums are near 0 and 65535.
func TestParseOfExtremeContents(t *testing.T) {
	for _, c := range []byte{0, 1, 0x7f, 0x80, 0xfe, 0xff} {
		for _, size := range []int{0, 1, 2, 3, 256, 257, 1459, 1460} {
			for _, p := range goods() {
				for _, a := range []uint32{0, 1, 0xffff, 0xffff0000, math.MaxUint32} {
					p.Src, p.Dst = a, a
					wantBuild(t, p, bytes.Repeat([]byte{c}, size))
				}
			}
		}
	}
}

// foreign returns right packets that Build does not make: header options, another TTL and ID, bytes behind the end,
// options and numbers of TCP, its flags 64 and 128, a datagram without a checksum, a number of ICMP.
func foreign() [][]byte {
	options := append([]byte{0x46, 0, 0, 0, 0x12, 0x34, 0x40, 0, 9, 6, 0, 0, 1, 2, 3, 4, 5, 6, 7, 8, 1, 1, 1, 0}, filled(28)...)
	options[24+12], options[24+13] = 0x60, api.Fin|api.Ack|64|128
	plain := []byte{0x45, 0, 0, 0, 0, 1, 0, 0, 255, 17, 0, 0, 9, 8, 7, 6, 5, 4, 3, 2, 1, 2, 3, 4, 0, 10, 0, 0, 5, 6, 7}
	echo := append([]byte{0x45, 0, 0, 0, 0xff, 0xff, 0, 0, 1, 1, 0, 0, 1, 1, 1, 1, 2, 2, 2, 2}, 0, 0, 0, 0, 0x77, 0x88, 3, 4, 9)
	for _, b := range [][]byte{options, plain, echo} {
		putWord(b, 2, len(b))
		putWord(b, 10, 65535-slowSum(b[:int(b[0]%16)*4]))
	}
	segment := options[24:]
	putWord(segment, 16, 0)
	putWord(segment, 16, 65535-slowSum(append(append(bytes.Clone(options[12:20]), 0, 6, 0, byte(len(segment))), segment...)))
	putWord(echo[20:], 2, 65535-slowSum(echo[20:]))
	return [][]byte{options, plain, append(plain, 1, 2, 3), echo, append(echo, 5)}
}

// P9.1 and P9.2: a packet that Parse returned is valid, and is the same when it is built and parsed again.
func TestParsedPacketsAreGood(t *testing.T) {
	for i, b := range foreign() {
		p, e := wire.Parse(b)
		if e != api.OK {
			t.Fatalf("packet %d: %d", i, e)
		}
		for _, size := range []int{0, 1, 20} {
			wantBuild(t, p, filled(size))
		}
	}
}

// P9.1 and P9.2: the bytes of a built packet with any one byte changed and the sums mended are a packet that is valid, or none at all.
func TestParsedChangedPacketsAreGood(t *testing.T) {
	parsed := 0
	for _, p := range goods() {
		for at := range 40 {
			for n := range 256 {
				b := slowBuild(p, filled(20))
				b[at] = byte(n)
				putWord(b, 10, 0)
				putWord(b, 10, 65535-slowSum(b[:20]))
				if b[9] == 17 {
					putWord(b, 26, 0)
				}
				if q, e := wire.Parse(mendContent(b)); e == api.OK {
					wantBuild(t, q, filled(3))
					parsed++
				}
			}
		}
	}
	if parsed < 10000 {
		t.Error(parsed)
	}
}

// mendContent makes the checksum behind a header of 20 bytes right again; of UDP there is none then.
func mendContent(b []byte) []byte {
	c := b[20:]
	switch b[9] {
	case 1:
		putWord(c, 2, 0)
		putWord(c, 2, 65535-slowSum(c))
	case 6:
		putWord(c, 16, 0)
		putWord(c, 16, 65535-slowSum(append(append(bytes.Clone(b[12:20]), 0, 6, 0, byte(len(c))), c...)))
	}
	return b
}

// P9.1: only the bytes within the length of the content count, not what lies behind it in memory.
func TestBuildKeepsToTheLength(t *testing.T) {
	for _, p := range goods() {
		room := filled(1700)
		for _, size := range []int{0, 1, 2, 3, 40, 41, 1459, 1460} {
			whole, _ := Build(p, room[:size])
			exact, _ := Build(p, room[:size:size])
			if !bytes.Equal(whole, exact) || !bytes.Equal(whole, slowBuild(p, room[:size])) {
				t.Errorf("%+v, %d bytes: %x, %x", p, size, whole, exact)
			}
		}
	}
}

// fill changes every byte of b, and of what lies behind it up to its capacity.
func fill(b []byte, c byte) {
	b = b[:cap(b)]
	for i := range b {
		b[i] = c
	}
}

// P9.1 and R4: Build changes neither the content nor what lies behind it, and its result shares no memory with them or with another result.
func TestBuildSharesNothing(t *testing.T) {
	for _, p := range goods() {
		for _, size := range []int{0, 1, 7, 8, 20, 21, 1459, 1460} {
			room := filled(size + 100)
			before := bytes.Clone(room)
			want := slowBuild(p, room[:size])
			first, _ := Build(p, room[:size])
			second, _ := Build(p, room[:size])
			if !bytes.Equal(room, before) {
				t.Fatal("the argument has changed")
			}
			fill(first, 0xee)
			if !bytes.Equal(room, before) || !bytes.Equal(second, want) {
				t.Fatal("the result is not new memory")
			}
			fill(room, 0xdd)
			if !bytes.Equal(second, want) {
				t.Fatal("the result changes with the argument")
			}
			wantBuild(t, p, before[:size])
		}
	}
}

// P9.1, R3 and R4: an error changes nothing either.
func TestErrorsChangeNothing(t *testing.T) {
	room := filled(2000)
	before := bytes.Clone(room)
	for _, p := range append(goods(), bads()...) {
		for _, size := range []int{0, 1, 1461, 1473, 1500, 1999, 2000} {
			Good(p)
			Build(p, room[:size])
			if !bytes.Equal(room, before) {
				t.Fatal("the argument has changed")
			}
		}
	}
}

// R5: what was built before makes no difference.
func TestNothingIsKept(t *testing.T) {
	for _, p := range goods() {
		for _, other := range append(goods(), bads()...) {
			for _, size := range []int{0, 9, 1460, 1473} {
				Build(other, filled(size))
				wantBuild(t, p, filled(6))
				wantError(t, p, make([]byte, 1473), api.ErrOver)
				wantError(t, api.Packet{Proto: 2}, nil, api.ErrArg)
			}
		}
	}
}
