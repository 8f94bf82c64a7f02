package key

import (
	"bytes"
	"hash/fnv"
	"math"
	"math/rand"
	"slices"
	"testing"

	"mantlet/api"
)

// addrs and ports are numbers at whose edges a wrong sign, a lost byte or a wrong order shows.
var (
	addrs = []uint32{0, 1, 0x7fff, 0xffff, 0x10000, 0x12345678, 0x7fffffff, 0x80000000, 0x80000001, 0xfffffffe, 0xffffffff}
	ports = []uint16{0, 1, 0x7f, 0xff, 0x100, 0x1234, 0x7fff, 0x8000, 0xfffe, 0xffff}
)

// place is an endpoint, as the tests write it.
type place struct {
	addr uint32
	port uint16
}

// packet returns a packet from one place to another.
func packet(proto uint8, from, to place) api.Packet {
	return api.Packet{Proto: proto, Src: from.addr, Dst: to.addr, SPort: from.port, DPort: to.port}
}

// keyOf returns a key whose places are in the order in which they are given.
func keyOf(proto uint8, first, second place) api.Key {
	return api.Key{Addr: [2]uint32{first.addr, second.addr}, Port: [2]uint16{first.port, second.port}, Proto: proto}
}

// places returns every address with every port.
func places() []place {
	var all []place
	for _, a := range addrs {
		for _, p := range ports {
			all = append(all, place{a, p})
		}
	}
	return all
}

// rank is an endpoint as one number: the ports only count among equal addresses.
func rank(p place) uint64 {
	return uint64(p.addr)*65536 + uint64(p.port)
}

// slowOf goes by the document's definition.
func slowOf(p api.Packet) (api.Key, bool) {
	src, dst := place{p.Src, p.SPort}, place{p.Dst, p.DPort}
	if rank(dst) < rank(src) {
		return keyOf(p.Proto, dst, src), true
	}
	return keyOf(p.Proto, src, dst), false
}

// slowTurn goes by the document's definition.
func slowTurn(p api.Packet) api.Packet {
	q := api.Packet{Proto: p.Proto, Src: p.Dst, Dst: p.Src, SPort: p.DPort, DPort: p.SPort, Flags: p.Flags, Kind: p.Kind}
	if p.Proto == 1 && p.Kind == 8 {
		q.Kind = 0
	}
	if p.Proto == 1 && p.Kind == 0 {
		q.Kind = 8
	}
	return q
}

// keyBytes are the bytes of a key in the order of P10.2, which is also that of P10.3.
func keyBytes(k api.Key) []byte {
	b := []byte{k.Proto}
	for i := 0; i < 2; i++ {
		a, p := k.Addr[i], k.Port[i]
		b = append(b, byte(a/16777216), byte(a/65536%256), byte(a/256%256), byte(a%256), byte(p/256), byte(p%256))
	}
	return b
}

// fromBytes is the key with such bytes.
func fromBytes(b []byte) api.Key {
	number := func(b []byte) uint32 {
		n := uint32(0)
		for _, c := range b {
			n = 256*n + uint32(c)
		}
		return n
	}
	first := place{number(b[1:5]), uint16(number(b[5:7]))}
	second := place{number(b[7:11]), uint16(number(b[11:13]))}
	return keyOf(b[0], first, second)
}

// slowHash calculates in more bits than are kept.
func slowHash(k api.Key) uint32 {
	h := uint64(2166136261)
	for _, c := range keyBytes(k) {
		h = (h ^ uint64(c)) * 16777619 % 4294967296
	}
	return uint32(h)
}

// slowStripe has the powers of two written out.
func slowStripe(k api.Key, stripes int) int {
	switch stripes {
	case 1, 2, 4, 8, 16, 32, 64, 128, 256, 512, 1024, 2048, 4096:
		return int(int64(slowHash(k)) % int64(stripes))
	}
	return 0
}

// slowLess compares the bytes: the most significant one that differs decides about a number.
func slowLess(a, b api.Key) bool {
	return bytes.Compare(keyBytes(a), keyBytes(b)) < 0
}

// somePacket returns an arbitrary packet, whose endpoints are often alike.
func somePacket(r *rand.Rand) api.Packet {
	addr := func() uint32 {
		if r.Intn(2) == 0 {
			return addrs[r.Intn(3)]
		}
		return r.Uint32()
	}
	port := func() uint16 {
		if r.Intn(2) == 0 {
			return ports[r.Intn(3)]
		}
		return uint16(r.Uint32())
	}
	p := packet(uint8(r.Uint32()), place{addr(), port()}, place{addr(), port()})
	p.Flags, p.Kind = uint8(r.Uint32()), uint8(r.Uint32())
	if r.Intn(2) == 0 {
		p.Proto, p.Kind = []uint8{1, 1, 6, 17}[r.Intn(4)], uint8(r.Intn(10))
	}
	return p
}

// someKey returns an arbitrary key, whose ends may be in any order.
func someKey(r *rand.Rand) api.Key {
	p := somePacket(r)
	return keyOf(p.Proto, place{p.Src, p.SPort}, place{p.Dst, p.DPort})
}

// wantOf holds Of against the document's definition.
func wantOf(t *testing.T, p api.Packet) {
	want, wantDown := slowOf(p)
	if k, down := Of(p); k != want || down != wantDown {
		t.Fatalf("Of(%+v) = %+v, %t, want %+v, %t", p, k, down, want, wantDown)
	}
}

// wantTurn holds Turn against the document's definition, and wants p again of the second turn.
func wantTurn(t *testing.T, p api.Packet) {
	want := slowTurn(p)
	if q := Turn(p); q != want {
		t.Fatalf("Turn(%+v) = %+v, want %+v", p, q, want)
	}
	if q := Turn(Turn(p)); q != p {
		t.Fatalf("Turn(Turn(%+v)) = %+v", p, q)
	}
}

// wantOneKey wants the same key of p and its reverse, and that one of them comes from the higher end, if there is one.
func wantOneKey(t *testing.T, p api.Packet) {
	k, down := Of(p)
	back, up := Of(Turn(p))
	if k != back {
		t.Fatalf("Of(%+v) = %+v, but %+v of the reverse", p, k, back)
	}
	same := p.Src == p.Dst && p.SPort == p.DPort
	if same && (down || up) || !same && down == up {
		t.Fatalf("Of(%+v): %t, of the reverse: %t", p, down, up)
	}
}

// P10.1: endpoints that differ in the address alone, in the port alone, in both, in both in opposite directions, and not at all.
func TestOfKnown(t *testing.T) {
	for _, c := range []struct {
		p    api.Packet
		k    api.Key
		down bool
	}{
		{packet(6, place{1, 7}, place{2, 7}), keyOf(6, place{1, 7}, place{2, 7}), false},
		{packet(6, place{2, 7}, place{1, 7}), keyOf(6, place{1, 7}, place{2, 7}), true},
		{packet(17, place{5, 1}, place{5, 2}), keyOf(17, place{5, 1}, place{5, 2}), false},
		{packet(17, place{5, 2}, place{5, 1}), keyOf(17, place{5, 1}, place{5, 2}), true},
		{packet(6, place{1, 3}, place{2, 4}), keyOf(6, place{1, 3}, place{2, 4}), false},
		{packet(6, place{2, 4}, place{1, 3}), keyOf(6, place{1, 3}, place{2, 4}), true},
		{packet(6, place{1, 4}, place{2, 3}), keyOf(6, place{1, 4}, place{2, 3}), false},
		{packet(6, place{2, 3}, place{1, 4}), keyOf(6, place{1, 4}, place{2, 3}), true},
		{packet(1, place{5, 9}, place{5, 9}), keyOf(1, place{5, 9}, place{5, 9}), false},
		{packet(1, place{0x0a000001, 9}, place{0x09ffffff, 9}), keyOf(1, place{0x09ffffff, 9}, place{0x0a000001, 9}), true},
		{packet(6, place{0x7fffffff, 0}, place{0x80000000, 0}), keyOf(6, place{0x7fffffff, 0}, place{0x80000000, 0}), false},
		{packet(6, place{0x80000000, 0}, place{0x7fffffff, 0}), keyOf(6, place{0x7fffffff, 0}, place{0x80000000, 0}), true},
		{packet(6, place{0, 0x7fff}, place{0, 0x8000}), keyOf(6, place{0, 0x7fff}, place{0, 0x8000}), false},
		{packet(6, place{0, 0x8000}, place{0, 0x7fff}), keyOf(6, place{0, 0x7fff}, place{0, 0x8000}), true},
		{packet(6, place{0, 0xffff}, place{1, 0}), keyOf(6, place{0, 0xffff}, place{1, 0}), false},
		{packet(6, place{1, 0}, place{0, 0xffff}), keyOf(6, place{0, 0xffff}, place{1, 0}), true},
		{packet(6, place{0xffffffff, 0xffff}, place{0, 0}), keyOf(6, place{0, 0}, place{0xffffffff, 0xffff}), true},
		{packet(6, place{0xffffffff, 0xffff}, place{0xffffffff, 0xffff}), keyOf(6, place{0xffffffff, 0xffff}, place{0xffffffff, 0xffff}), false},
		{api.Packet{}, api.Key{}, false},
	} {
		if k, down := Of(c.p); k != c.k || down != c.down {
			t.Errorf("Of(%+v) = %+v, %t, want %+v, %t", c.p, k, down, c.k, c.down)
		}
	}
}

// P10.1: the fields of the key are addressed one by one.
func TestOfFields(t *testing.T) {
	k, down := Of(api.Packet{Proto: 17, Src: 0xc0a80001, Dst: 0x0a000002, SPort: 53, DPort: 1025, Flags: 2, Kind: 8})
	if k.Proto != 17 || k.Addr[0] != 0x0a000002 || k.Port[0] != 1025 || k.Addr[1] != 0xc0a80001 || k.Port[1] != 53 || !down {
		t.Errorf("from the higher end: %+v, %t", k, down)
	}
	k, down = Of(api.Packet{Proto: 6, Src: 0x0a000002, Dst: 0xc0a80001, SPort: 1025, DPort: 53, Flags: 16, Kind: 3})
	if k.Proto != 6 || k.Addr[0] != 0x0a000002 || k.Port[0] != 1025 || k.Addr[1] != 0xc0a80001 || k.Port[1] != 53 || down {
		t.Errorf("from the lower end: %+v, %t", k, down)
	}
}

// P10.1: all pairs of endpoints at the edges.
func TestOfEdges(t *testing.T) {
	all := places()
	for _, from := range all {
		for _, to := range all {
			wantOf(t, packet(6, from, to))
		}
	}
}

// P10.1: endpoints that differ in one bit alone, in either direction.
func TestOfEveryBit(t *testing.T) {
	for _, from := range places() {
		for bit := 0; bit < 32; bit++ {
			to := place{from.addr ^ 1<<bit, from.port}
			wantOf(t, packet(17, from, to))
			wantOf(t, packet(17, to, from))
		}
		for bit := 0; bit < 16; bit++ {
			to := place{from.addr, from.port ^ 1<<bit}
			wantOf(t, packet(17, from, to))
			wantOf(t, packet(17, to, from))
		}
	}
}

// P10.1: all ports, with addresses that are equal, and with ones that point the other way.
func TestOfAllPorts(t *testing.T) {
	for n := 0; n < 65536; n++ {
		for _, port := range ports {
			wantOf(t, packet(6, place{9, uint16(n)}, place{9, port}))
			wantOf(t, packet(6, place{9, uint16(n)}, place{8, port}))
			wantOf(t, packet(6, place{8, uint16(n)}, place{9, port}))
		}
	}
}

// P10.1: every Proto is in the key as it is; flags and kinds are not.
func TestOfProtos(t *testing.T) {
	low, high := place{0x01020304, 0xabcd}, place{0xf1f2f3f4, 0x1234}
	for n := 0; n < 256; n++ {
		for _, p := range []api.Packet{packet(uint8(n), low, high), packet(uint8(n), high, low), packet(uint8(n), low, low)} {
			wantOf(t, p)
			for _, rest := range []uint8{1, 2, 8, 16, 64, 128, 255} {
				q := p
				q.Flags, q.Kind = rest, 255-rest
				wantOf(t, q)
			}
		}
	}
	for n := 0; n < 256; n++ {
		for _, proto := range []uint8{1, 6, 17, 0} {
			p := packet(proto, high, low)
			p.Flags = uint8(n)
			wantOf(t, p)
			p.Flags, p.Kind = 0, uint8(n)
			wantOf(t, p)
		}
	}
}

// P10.1: a packet of each protocol turned round, with every field.
func TestTurnKnown(t *testing.T) {
	for _, c := range []struct{ p, want api.Packet }{
		{api.Packet{Proto: 6, Src: 1, Dst: 2, SPort: 3, DPort: 4, Flags: 18}, api.Packet{Proto: 6, Src: 2, Dst: 1, SPort: 4, DPort: 3, Flags: 18}},
		{api.Packet{Proto: 17, Src: 1, Dst: 2, SPort: 3, DPort: 4}, api.Packet{Proto: 17, Src: 2, Dst: 1, SPort: 4, DPort: 3}},
		{api.Packet{Proto: 1, Src: 1, Dst: 2, SPort: 3, DPort: 3, Kind: 8}, api.Packet{Proto: 1, Src: 2, Dst: 1, SPort: 3, DPort: 3}},
		{api.Packet{Proto: 1, Src: 1, Dst: 2, SPort: 3, DPort: 3}, api.Packet{Proto: 1, Src: 2, Dst: 1, SPort: 3, DPort: 3, Kind: 8}},
		{api.Packet{Proto: 1, Src: 1, Dst: 2, SPort: 3, DPort: 4, Flags: 5, Kind: 3}, api.Packet{Proto: 1, Src: 2, Dst: 1, SPort: 4, DPort: 3, Flags: 5, Kind: 3}},
		{api.Packet{Proto: 6, Src: 1, Dst: 2, SPort: 3, DPort: 4, Flags: 16, Kind: 8}, api.Packet{Proto: 6, Src: 2, Dst: 1, SPort: 4, DPort: 3, Flags: 16, Kind: 8}},
		{api.Packet{Proto: 17, Src: 1, Dst: 2, SPort: 3, DPort: 4, Kind: 8}, api.Packet{Proto: 17, Src: 2, Dst: 1, SPort: 4, DPort: 3, Kind: 8}},
		{api.Packet{Proto: 255, Src: 1, Dst: 2, SPort: 3, DPort: 4, Flags: 255, Kind: 255}, api.Packet{Proto: 255, Src: 2, Dst: 1, SPort: 4, DPort: 3, Flags: 255, Kind: 255}},
		{api.Packet{}, api.Packet{}},
		{api.Packet{Proto: 1}, api.Packet{Proto: 1, Kind: 8}},
		{api.Packet{Kind: 8}, api.Packet{Kind: 8}},
		{api.Packet{Proto: 6}, api.Packet{Proto: 6}},
	} {
		if q := Turn(c.p); q != c.want {
			t.Errorf("Turn(%+v) = %+v, want %+v", c.p, q, c.want)
		}
	}
}

// P10.1: all kinds of every Proto, with flags and without: only the two kinds of ICMP are exchanged.
func TestTurnKinds(t *testing.T) {
	for proto := 0; proto < 256; proto++ {
		for kind := 0; kind < 256; kind++ {
			p := packet(uint8(proto), place{0x0a000001, 0x1234}, place{0xc0a8fe97, 0x1234})
			p.Kind = uint8(kind)
			wantTurn(t, p)
			p.Flags, p.DPort = uint8(255-kind), 0x5678
			wantTurn(t, p)
		}
	}
}

// P10.1: every bit of each field alone, and as the only one that is not set.
func TestTurnEveryBit(t *testing.T) {
	for bit := 0; bit < 32; bit++ {
		for _, p := range []api.Packet{
			{Src: 1 << bit}, {Dst: 1 << bit}, {SPort: 1 << (bit % 16)}, {DPort: 1 << (bit % 16)}, {Flags: 1 << (bit % 8)}, {Kind: 1 << (bit % 8)},
		} {
			for _, proto := range []uint8{0, 1, 2, 6, 17, 255} {
				p.Proto = proto
				wantTurn(t, p)
				wantTurn(t, api.Packet{Proto: proto, Src: ^p.Src, Dst: ^p.Dst, SPort: ^p.SPort, DPort: ^p.DPort, Flags: ^p.Flags, Kind: ^p.Kind})
			}
		}
	}
}

// P10.1: equal endpoints stay, but the kind is exchanged all the same.
func TestTurnBetweenEqualEndpoints(t *testing.T) {
	p := packet(1, place{7, 5}, place{7, 5})
	p.Kind = api.Echo
	wantTurn(t, p)
	if q := Turn(p); q.Kind != api.EchoReply || q.Src != 7 || q.Dst != 7 || q.SPort != 5 || q.DPort != 5 {
		t.Errorf("Turn(%+v) = %+v", p, q)
	}
	wantOneKey(t, p)
}

// P10.1, and the chapter's example: a packet and the result of Turn have the same key.
func TestDirectionsHaveOneKey(t *testing.T) {
	all := places()
	for i, from := range all {
		for j, to := range all {
			p := packet([]uint8{1, 6, 17, 0}[(i+j)%4], from, to)
			p.Flags, p.Kind = uint8(i), uint8(8*(j%2))
			wantOneKey(t, p)
		}
	}
}

// P10.1: packets with other protocols or endpoints have other keys.
func TestFlowsHaveTheirOwnKeys(t *testing.T) {
	keys := map[api.Key]bool{}
	count := 0
	all := places()
	for i, low := range all {
		for _, high := range all[i:] {
			for _, proto := range []uint8{1, 6, 17} {
				k, _ := Of(packet(proto, high, low))
				keys[k] = true
				count++
			}
		}
	}
	if len(keys) != count {
		t.Errorf("%d flows have %d keys", count, len(keys))
	}
}

// P10.1: arbitrary packets.
func TestArbitraryPackets(t *testing.T) {
	r := rand.New(rand.NewSource(10))
	for i := 0; i < 200000; i++ {
		p := somePacket(r)
		wantOf(t, p)
		wantTurn(t, p)
		wantOneKey(t, p)
	}
}

// P10.2: hashes that were worked out apart from the program; the first key's bytes are a known text with a known hash.
func TestHashKnown(t *testing.T) {
	for _, c := range []struct {
		k    api.Key
		want uint32
	}{
		{fromBytes([]byte("Hello, world!")), 0xed90f094},
		{api.Key{}, 0xda0f62ef},
		{keyOf(255, place{0xffffffff, 0xffff}, place{0xffffffff, 0xffff}), 0x6a9a4002},
		{keyOf(6, place{0x0a000001, 1025}, place{0xc0a80001, 80}), 0xbc448b8c},
		{keyOf(17, place{0x7f000001, 53}, place{0x80000000, 0x8000}), 0xa8611a97},
		{keyOf(1, place{1, 0xabcd}, place{2, 0xabcd}), 0xdf5d1961},
		{keyOf(6, place{1, 3}, place{2, 4}), 0x9815779d},
		{keyOf(0x12, place{0x3456789a, 0xbcde}, place{0xf0123456, 0x789a}), 0x6990081d},
	} {
		if h := Hash(c.k); h != c.want {
			t.Errorf("Hash(%+v) = %#x, want %#x", c.k, h, c.want)
		}
		if h := slowHash(c.k); h != c.want {
			t.Errorf("the reference says %#x of %+v, want %#x", h, c.k, c.want)
		}
	}
}

// P10.2: every value of each byte of several keys; a single byte always makes another hash.
func TestHashOfEveryByte(t *testing.T) {
	for _, text := range []string{"Hello, world!", "\x00\x00\x00\x00\x00\x00\x00\x00\x00\x00\x00\x00\x00", "\xff\xff\xff\xff\xff\xff\xff\xff\xff\xff\xff\xff\xff", "\x06\x0a\x00\x00\x01\x04\x01\xc0\xa8\x00\x01\x00\x50"} {
		first := Hash(fromBytes([]byte(text)))
		for at := range text {
			for n := 0; n < 256; n++ {
				b := []byte(text)
				b[at] = byte(n)
				h := Hash(fromBytes(b))
				if want := slowHash(fromBytes(b)); h != want {
					t.Fatalf("Hash of %x = %#x, want %#x", b, h, want)
				}
				if (h == first) != (b[at] == text[at]) {
					t.Fatalf("Hash of %x = %#x, and %#x of %x", b, h, first, text)
				}
			}
		}
	}
}

// P10.2: the order of the keys' parts counts: a key with its ends, addresses or ports exchanged has another hash.
func TestHashOfExchangedParts(t *testing.T) {
	a, b := place{0x01020304, 0x0506}, place{0x0708090a, 0x0b0c}
	hashes := map[uint32]bool{}
	for _, k := range []api.Key{
		keyOf(6, a, b), keyOf(6, b, a),
		keyOf(6, place{a.addr, b.port}, place{b.addr, a.port}), keyOf(6, place{b.addr, a.port}, place{a.addr, b.port}),
		keyOf(6, place{0x04030201, 0x0605}, place{0x0a090807, 0x0c0b}), // the other end of each number first
	} {
		hashes[Hash(k)] = true
		if h, want := Hash(k), slowHash(k); h != want {
			t.Errorf("Hash(%+v) = %#x, want %#x", k, h, want)
		}
	}
	if len(hashes) != 5 {
		t.Errorf("five keys have %d hashes", len(hashes))
	}
}

// P10.2: arbitrary keys against the reference and against the library's hash, which is the same one.
func TestHashOfArbitraryKeys(t *testing.T) {
	r := rand.New(rand.NewSource(11))
	for i := 0; i < 100000; i++ {
		k := someKey(r)
		library := fnv.New32a()
		library.Write(keyBytes(k))
		if h := Hash(k); h != slowHash(k) || h != library.Sum32() {
			t.Fatalf("Hash(%+v) = %#x, want %#x and %#x", k, h, slowHash(k), library.Sum32())
		}
	}
}

// P10.2: a hash whose last digits are written out, for every power of two, and hashes at the edges.
func TestStripeKnown(t *testing.T) {
	k := fromBytes([]byte("Hello, world!")) // its hash is 0xed90f094, which ends with the bits 0000 1001 0100
	for _, c := range []struct{ stripes, want int }{
		{1, 0}, {2, 0}, {4, 0}, {8, 4}, {16, 4}, {32, 20}, {64, 20}, {128, 20}, {256, 148}, {512, 148}, {1024, 148}, {2048, 148}, {4096, 148},
	} {
		if got := Stripe(k, c.stripes); got != c.want {
			t.Errorf("Stripe(%d) = %d, want %d", c.stripes, got, c.want)
		}
	}
	zero := api.Key{} // its hash is 0xda0f62ef, which ends with the bits 0010 1110 1111
	for _, c := range []struct{ stripes, want int }{
		{1, 0}, {2, 1}, {4, 3}, {8, 7}, {16, 15}, {32, 15}, {64, 47}, {128, 111}, {256, 239}, {512, 239}, {1024, 751}, {2048, 751}, {4096, 751},
	} {
		if got := Stripe(zero, c.stripes); got != c.want {
			t.Errorf("Stripe(zero, %d) = %d, want %d", c.stripes, got, c.want)
		}
	}
}

// P10.2: all numbers of stripes about the limits; only the powers of two from 1 to 4096 are any.
func TestStripeOfAllNumbers(t *testing.T) {
	for _, k := range []api.Key{{}, fromBytes([]byte("Hello, world!")), keyOf(6, place{1, 3}, place{2, 4}), keyOf(17, place{0x7f000001, 53}, place{0x80000000, 0x8000})} {
		for stripes := -9000; stripes <= 70000; stripes++ {
			if got, want := Stripe(k, stripes), slowStripe(k, stripes); got != want {
				t.Fatalf("Stripe(%+v, %d) = %d, want %d", k, stripes, got, want)
			}
		}
	}
}

// P10.2 and R1: the edges of int, and powers of two that are too great, or negative.
func TestStripeOfExtremeNumbers(t *testing.T) {
	r := rand.New(rand.NewSource(12))
	for i := 0; i < 200; i++ {
		k := someKey(r)
		for _, n := range []int{0, -1, math.MinInt, math.MinInt + 1, math.MaxInt, math.MaxInt - 1, math.MinInt32, math.MaxInt32, math.MaxUint32, 3, 12, 4095, 4097, 6144} {
			if got, want := Stripe(k, n), slowStripe(k, n); got != want || got != 0 {
				t.Fatalf("Stripe(%+v, %d) = %d", k, n, got)
			}
		}
		for bit := 0; bit < 63; bit++ {
			for _, n := range []int{1 << bit, -1 << bit, 1<<bit + 1, 1<<bit - 1, 1<<32 + 1<<bit, 1<<bit | 1<<62} {
				if got, want := Stripe(k, n), slowStripe(k, n); got != want {
					t.Fatalf("Stripe(%+v, %d) = %d, want %d", k, n, got, want)
				}
			}
		}
	}
}

// P10.2: a stripe is one of those that there are, and each of them is some key's; hashes with the sign bit are no exception.
func TestStripesAreAllUsed(t *testing.T) {
	r := rand.New(rand.NewSource(13))
	for stripes := 1; stripes <= api.MaxStripes; stripes *= 2 {
		used := make([]bool, stripes)
		great := 0
		for i := 0; i < 20*stripes; i++ {
			k := keyOf(6, place{r.Uint32(), uint16(r.Uint32())}, place{r.Uint32(), uint16(r.Uint32())})
			s := Stripe(k, stripes)
			if s < 0 || s >= stripes || s != slowStripe(k, stripes) {
				t.Fatalf("Stripe(%+v, %d) = %d", k, stripes, s)
			}
			used[s] = true
			if Hash(k) >= 1<<31 {
				great++
			}
		}
		if slices.Contains(used, false) || great == 0 {
			t.Errorf("of %d stripes some are not used (%d hashes have the sign bit)", stripes, great)
		}
	}
}

// P10.2 and P10.1: both directions of a flow are in one stripe.
func TestDirectionsHaveOneStripe(t *testing.T) {
	r := rand.New(rand.NewSource(14))
	for i := 0; i < 1000; i++ {
		p := somePacket(r)
		k, _ := Of(p)
		back, _ := Of(Turn(p))
		if Stripe(k, 4096) != Stripe(back, 4096) || Stripe(k, 4096) != slowStripe(k, 4096) {
			t.Fatalf("%+v: %d, %d of the reverse", p, Stripe(k, 4096), Stripe(back, 4096))
		}
	}
}

// wantLess wants a before b, and nothing else of the two.
func wantLess(t *testing.T, a, b api.Key) {
	if !Less(a, b) {
		t.Errorf("Less(%+v, %+v) = false", a, b)
	}
	if Less(b, a) {
		t.Errorf("Less(%+v, %+v) = true", b, a)
	}
	if Less(a, a) || Less(b, b) {
		t.Errorf("%+v or %+v is before itself", a, b)
	}
}

// setField returns k with a number in one of the fields, counted in the order of P10.3.
func setField(k api.Key, field int, n uint32) api.Key {
	switch field {
	case 0:
		k.Proto = uint8(n)
	case 1, 3:
		k.Addr[field/2] = n
	case 2, 4:
		k.Port[field/2-1] = uint16(n)
	}
	return k
}

// P10.3: keys that differ in one field alone, at its edges.
func TestLessOfOneField(t *testing.T) {
	edges := [][]uint32{
		{0, 1, 6, 17, 127, 128, 254, 255},
		addrs,
		{0, 1, 0xff, 0x100, 0x7fff, 0x8000, 0xfffe, 0xffff},
		addrs,
		{0, 1, 0xff, 0x100, 0x7fff, 0x8000, 0xfffe, 0xffff},
	}
	for _, k := range []api.Key{{}, keyOf(6, place{100, 200}, place{300, 400}), keyOf(255, place{0xffffffff, 0xffff}, place{0, 0})} {
		for field, numbers := range edges {
			for i, high := range numbers {
				for _, low := range numbers[:i] {
					wantLess(t, setField(k, field, low), setField(k, field, high))
				}
			}
		}
	}
}

// P10.3: of two fields that point in opposite directions the one that comes first decides, whatever the later ones say.
func TestLessOfOppositeFields(t *testing.T) {
	k := keyOf(5, place{5, 5}, place{5, 5})
	for first := 0; first < 5; first++ {
		rest := k
		for second := first + 1; second < 5; second++ {
			for _, far := range []uint32{6, 200} { // a great difference behind does not outweigh
				a, b := setField(k, first, 4), setField(k, first, 5)
				wantLess(t, setField(a, second, far), setField(b, second, 5))
				wantLess(t, setField(a, second, 5), setField(b, second, 4))
			}
			rest = setField(rest, second, 0xff)
		}
		wantLess(t, setField(rest, first, 4), k)
		wantLess(t, k, setField(rest, first, 6))
	}
}

// P10.3: keys that do not differ are not before each other; neither are the ends of one key held against each other.
func TestLessOfEqualKeys(t *testing.T) {
	for _, a := range places() {
		for _, proto := range []uint8{0, 6, 255} {
			for _, k := range []api.Key{keyOf(proto, a, a), keyOf(proto, a, place{}), keyOf(proto, place{}, a)} {
				same := k
				if Less(k, same) || Less(same, k) || Less(k, k) {
					t.Fatalf("%+v is before itself", k)
				}
			}
		}
	}
}

// P10.3: all pairs of keys at the edges, also keys whose ends are not in order.
func TestLessOfAllPairs(t *testing.T) {
	var ends []place
	for _, a := range []uint32{0, 0x7fffffff, 0x80000000, 0xffffffff} {
		for _, p := range []uint16{0, 0x7fff, 0xffff} {
			ends = append(ends, place{a, p})
		}
	}
	var keys []api.Key
	for _, proto := range []uint8{0, 127, 128} {
		for _, first := range ends {
			for _, second := range ends {
				keys = append(keys, keyOf(proto, first, second))
			}
		}
	}
	for i, a := range keys {
		for j, b := range keys { // the keys were made in their order
			if Less(a, b) != (i < j) {
				t.Fatalf("Less(%+v, %+v) = %t", a, b, i >= j)
			}
		}
	}
}

// P10.3: every bit of each field, in either direction.
func TestLessOfEveryBit(t *testing.T) {
	r := rand.New(rand.NewSource(15))
	for i := 0; i < 300; i++ {
		a := keyBytes(someKey(r))
		for bit := 0; bit < 8*len(a); bit++ {
			b := bytes.Clone(a)
			b[bit/8] ^= 1 << (bit % 8)
			low, high := a, b
			if b[bit/8] < a[bit/8] {
				low, high = b, a
			}
			wantLess(t, fromBytes(low), fromBytes(high))
		}
	}
}

// P10.3: arbitrary keys, which are often alike, against the reference.
func TestLessOfArbitraryKeys(t *testing.T) {
	r := rand.New(rand.NewSource(16))
	for i := 0; i < 200000; i++ {
		a, b := someKey(r), someKey(r)
		for field := 0; field < r.Intn(6); field++ { // the first ones are equal
			b = setField(b, field, []uint32{uint32(a.Proto), a.Addr[0], uint32(a.Port[0]), a.Addr[1], uint32(a.Port[1])}[field])
		}
		if Less(a, b) != slowLess(a, b) || Less(b, a) != slowLess(b, a) {
			t.Fatalf("Less(%+v, %+v) = %t, and %t the other way round", a, b, Less(a, b), Less(b, a))
		}
	}
}

// P10.3: keys can be sorted by Less.
func TestLessSorts(t *testing.T) {
	r := rand.New(rand.NewSource(17))
	var keys []api.Key
	for i := 0; i < 2000; i++ {
		keys = append(keys, someKey(r))
	}
	slices.SortFunc(keys, func(a, b api.Key) int {
		if Less(a, b) {
			return -1
		}
		if Less(b, a) {
			return 1
		}
		return 0
	})
	for i := 1; i < len(keys); i++ {
		if slowLess(keys[i], keys[i-1]) {
			t.Fatalf("%+v is behind %+v", keys[i], keys[i-1])
		}
	}
}

// P10.1 and Ways: a key can be the key of a map, in which both directions of a flow meet and other flows do not.
func TestKeysOfMap(t *testing.T) {
	seen := map[api.Key]int{}
	p := api.Packet{Proto: 6, Src: 0xc0a80001, Dst: 0x0a000002, SPort: 80, DPort: 1025, Flags: api.Syn}
	for _, q := range []api.Packet{p, Turn(p), p, Turn(p)} {
		k, _ := Of(q)
		seen[k]++
	}
	k, _ := Of(p)
	if len(seen) != 1 || seen[k] != 4 {
		t.Errorf("one flow: %v", seen)
	}
	for field := 0; field < 5; field++ {
		if other := setField(k, field, 99); seen[other] != 0 {
			t.Errorf("%+v was seen", other)
		}
	}
	delete(seen, keyOf(6, place{0x0a000002, 1025}, place{0xc0a80001, 80}))
	if len(seen) != 0 {
		t.Errorf("after its removal: %v", seen)
	}
}

// R4: what a function is given is as it was.
func TestArgumentsStay(t *testing.T) {
	p := api.Packet{Proto: 1, Src: 9, Dst: 5, SPort: 3, DPort: 2, Flags: 1, Kind: 8}
	k := keyOf(6, place{9, 3}, place{5, 2})
	wasP, wasK := p, k
	Of(p)
	Turn(p)
	Hash(k)
	Stripe(k, 16)
	Less(k, api.Key{})
	Less(api.Key{}, k)
	if p != wasP || k != wasK {
		t.Errorf("changed to %+v and %+v", p, k)
	}
	first, _ := Of(p)
	first.Addr[0], first.Port[1] = 77, 77
	wantOf(t, p)
}

// R5: what was called before makes no difference.
func TestNothingIsKept(t *testing.T) {
	r := rand.New(rand.NewSource(18))
	p, k := somePacket(r), someKey(r)
	for i := 0; i < 1000; i++ {
		other, second := somePacket(r), someKey(r)
		Of(other)
		Turn(other)
		Hash(second)
		Stripe(second, 1<<(i%14))
		Less(second, k)
		wantOf(t, p)
		wantTurn(t, p)
		if Hash(k) != slowHash(k) || Stripe(k, 64) != slowStripe(k, 64) || Stripe(k, 65) != 0 || Less(k, second) != slowLess(k, second) {
			t.Fatalf("after %+v and %+v: %+v", other, second, k)
		}
	}
}
