package match

import (
	"math"
	"math/rand"
	"slices"
	"testing"

	"mantlet/api"
	"mantlet/rules"
)

// all is the port range of all ports.
var all = api.Span{Low: 0, High: 65535}

// maxBits and minBits are the edges of a network's number of bits.
const (
	maxBits = math.MaxInt
	minBits = math.MinInt
)

// wantMatch fails the test unless Matches and First say so of r, accepting and dropping.
func wantMatch(t *testing.T, r api.Rule, p api.Packet, want bool) {
	t.Helper()
	for _, accept := range []bool{false, true} {
		r.Accept = accept
		if Matches(r, p) != want {
			t.Fatalf("Matches(%v, %v) = %v", r, p, !want)
		}
		if want {
			wantFirst(t, 0, accept, p, r)
		} else {
			wantFirst(t, -1, false, p, r)
		}
	}
}

// wantFirst fails the test unless this is the first rule in list that matches p, with this verdict.
func wantFirst(t *testing.T, n int, accept bool, p api.Packet, list ...api.Rule) {
	t.Helper()
	if i, ok := First(list, p); i != n || ok != accept {
		t.Fatalf("First(%v (%d rules), %v) = %d, %v, want %d, %v", list[:min(len(list), 20)], len(list), p, i, ok, n, accept)
	}
}

// slowHas goes by the document's definitions of chapter 3, bit by bit.
func slowHas(n api.Net, a uint32) bool {
	if n.Bits < 0 || n.Bits > 32 {
		return false
	}
	for i := range 32 {
		bit := uint32(1) << (31 - i)
		if i < n.Bits && n.Addr&bit != a&bit || i >= n.Bits && n.Addr&bit != 0 {
			return false
		}
	}
	return true
}

// slowIn goes by the document's words: from the Low to the High.
func slowIn(s api.Span, port uint16) bool {
	low, high, n := int(s.Low), int(s.High), int(port)
	return n-low >= 0 && high-n >= 0
}

// slowMatches goes by the document's words, part by part.
func slowMatches(r api.Rule, p api.Packet) bool {
	for _, part := range []bool{
		r.Proto == 0 || r.Proto == p.Proto,
		slowHas(r.Src, p.Src),
		slowHas(r.Dst, p.Dst),
		slowIn(r.SPort, p.SPort),
		slowIn(r.DPort, p.DPort),
	} {
		if !part {
			return false
		}
	}
	return true
}

// slowFirst goes by the document's words, from the last rule to the first one.
func slowFirst(list []api.Rule, p api.Packet) (int, bool) {
	n, accept := -1, false
	for i := len(list) - 1; i >= 0; i-- {
		if slowMatches(list[i], p) {
			n, accept = i, list[i].Accept
		}
	}
	return n, accept
}

// open returns the rule that matches all packets of a protocol.
func open(accept bool, proto uint8) api.Rule {
	return api.Rule{Accept: accept, Proto: proto, SPort: all, DPort: all}
}

// closed returns a rule that matches no packet at all, as its port range contains no port.
func closed(accept bool) api.Rule {
	return api.Rule{Accept: accept, SPort: all, DPort: api.Span{Low: 1, High: 0}}
}

// web returns a rule none of whose parts matches everything, and a packet that it matches.
func web() (api.Rule, api.Packet) {
	r := api.Rule{
		Accept: true,
		Proto:  api.TCP,
		Src:    api.Net{Addr: 0x0a000000, Bits: 8},
		Dst:    api.Net{Addr: 0xc0a80100, Bits: 24},
		SPort:  api.Span{Low: 1024, High: 2047},
		DPort:  api.Span{Low: 80, High: 90},
	}
	p := api.Packet{Proto: api.TCP, Src: 0x0a010203, Dst: 0xc0a80102, SPort: 1500, DPort: 85, Flags: api.Syn}
	return r, p
}

// side is one of the two directions: how its network, its ports, its address and its port are set.
type side struct {
	name string
	net  func(r *api.Rule) *api.Net
	span func(r *api.Rule) *api.Span
	addr func(p *api.Packet) *uint32
	port func(p *api.Packet) *uint16
}

// sides returns the two directions.
func sides() []side {
	return []side{
		{
			"source",
			func(r *api.Rule) *api.Net { return &r.Src },
			func(r *api.Rule) *api.Span { return &r.SPort },
			func(p *api.Packet) *uint32 { return &p.Src },
			func(p *api.Packet) *uint16 { return &p.SPort },
		},
		{
			"destination",
			func(r *api.Rule) *api.Net { return &r.Dst },
			func(r *api.Rule) *api.Span { return &r.DPort },
			func(p *api.Packet) *uint32 { return &p.Dst },
			func(p *api.Packet) *uint16 { return &p.DPort },
		},
	}
}

// bases returns a rule and a packet that match in every part, in two ways: all open, and all narrow.
func bases() []struct {
	r api.Rule
	p api.Packet
} {
	r, p := web()
	return []struct {
		r api.Rule
		p api.Packet
	}{{open(false, api.Any), api.Packet{}}, {r, p}}
}

// P13.1: the document's example.
func TestExample(t *testing.T) {
	list, _, e := rules.Compile("drop tcp any any any 80\naccept any any any any any")
	if e != api.OK {
		t.Fatal(e)
	}
	for proto := range 256 {
		for port := range 65536 {
			p := api.Packet{Proto: uint8(proto), Src: 0x0a000001, Dst: 0x0b000001, SPort: 1025, DPort: uint16(port)}
			n, accept := First(list, p)
			first := proto == 6 && port == 80
			if first && (n != 0 || accept) || !first && (n != 1 || !accept) {
				t.Fatal(proto, port, n, accept)
			}
		}
	}
	// Port 80 of the other direction is none of rule 0.
	wantFirst(t, 1, true, api.Packet{Proto: api.TCP, SPort: 80, DPort: 1025}, list...)
	wantFirst(t, 0, false, api.Packet{Proto: api.TCP, SPort: 80, DPort: 80}, list...)
	// Without rule 1 there is no rule for the others.
	wantFirst(t, 0, false, api.Packet{Proto: api.TCP, DPort: 80}, list[:1]...)
	wantFirst(t, -1, false, api.Packet{Proto: api.TCP, DPort: 81}, list[:1]...)
	// The other way around, rule 0 matches everything.
	wantFirst(t, 0, true, api.Packet{Proto: api.TCP, DPort: 80}, list[1], list[0])
}

// P13.1: rules as text, each with packets that it matches and packets that it does not match.
func TestLines(t *testing.T) {
	p := api.Packet{Proto: api.UDP, Src: 0x0a010203, Dst: 0x08080404, SPort: 5353, DPort: 53}
	for _, c := range []struct {
		line string
		want bool
	}{
		{"accept any any any any any", true},
		{"accept udp any any any any", true},
		{"accept tcp any any any any", false},
		{"accept icmp any any any any", false},
		{"drop udp 10.0.0.0/8 any any any", true},
		{"drop udp 11.0.0.0/8 any any any", false},
		{"drop udp 10.1.2.3/32 any any any", true},
		{"drop udp 10.1.2.2/32 any any any", false},
		{"drop udp 10.1.2.2/31 any any any", true},
		{"drop udp any any 10.0.0.0/8 any", false},
		{"drop udp any any 8.8.4.0/24 any", true},
		{"drop udp any any 8.8.8.0/24 any", false},
		{"drop udp any any 0.0.0.0/1 any", true},
		{"drop udp any any 128.0.0.0/1 any", false},
		{"accept any any any any 53", true},
		{"accept any any 53 any any", false},
		{"accept any any 5353 any any", true},
		{"accept any any any any 5353", false},
		{"accept any any any any 1-53", true},
		{"accept any any any any 53-54", true},
		{"accept any any any any 54-65535", false},
		{"accept any any any any 0-52", false},
		{"accept udp 10.1.0.0/16 5353-5360 8.8.4.4/32 53", true},
		{"accept udp 10.1.0.0/16 5354-5360 8.8.4.4/32 53", false},
	} {
		list, _, e := rules.Compile(c.line)
		if e != api.OK || len(list) != 1 {
			t.Fatal(c.line, e)
		}
		if Matches(list[0], p) != c.want {
			t.Errorf("%q: %v", c.line, !c.want)
		}
	}
}

// P13.1: each Proto of a rule with each Proto of a packet: 0 matches all, each other one its own alone.
func TestProto(t *testing.T) {
	for _, b := range bases() {
		for proto := range 256 {
			for other := range 256 {
				r, p := b.r, b.p
				r.Proto, p.Proto = uint8(proto), uint8(other)
				wantMatch(t, r, p, proto == 0 || proto == other)
			}
		}
	}
}

// P13.1: a packet's 0 is matched by a rule's 0 alone, and a rule's 0 matches every packet.
func TestAny(t *testing.T) {
	for _, proto := range []uint8{api.ICMP, api.TCP, api.UDP, 2, 7, 16, 128, 255} {
		wantMatch(t, open(true, api.Any), api.Packet{Proto: proto}, true)
		wantMatch(t, open(true, proto), api.Packet{Proto: proto}, true)
		wantMatch(t, open(true, proto), api.Packet{Proto: api.Any}, false)
	}
	wantMatch(t, open(true, api.Any), api.Packet{Proto: api.Any}, true)
	wantMatch(t, open(true, api.TCP), api.Packet{Proto: api.UDP}, false)
	wantMatch(t, open(true, api.UDP), api.Packet{Proto: api.TCP}, false)
	wantMatch(t, open(true, api.ICMP), api.Packet{Proto: api.TCP}, false)
}

// someAddrs returns addresses of all kinds.
func someAddrs() []uint32 {
	return []uint32{0, 1, 0x0a000000, 0x0a010203, 0x55555555, 0x7fffffff, 0x80000000, 0xaaaaaaaa, 0xc0a80101, 0xfffffffe, 0xffffffff}
}

// P13.1: networks of each length: addresses inside and outside, the first and the last one, their neighbours.
func TestNets(t *testing.T) {
	for _, b := range bases() {
		for _, s := range sides() {
			for bits := 0; bits <= 32; bits++ {
				for _, a := range someAddrs() {
					size := int64(1) << (32 - bits)
					first := int64(a) / size * size
					last := first + size - 1
					tries := []int64{first, first + 1, first + size/2, last - 1, last, first - 1, last + 1, first - size, last + size, first ^ 1<<31}
					for _, other := range someAddrs() {
						tries = append(tries, int64(other))
					}
					for _, x := range tries {
						if x < 0 || x > 0xffffffff {
							continue
						}
						r, p := b.r, b.p
						*s.net(&r) = api.Net{Addr: uint32(first), Bits: bits}
						*s.addr(&p) = uint32(x)
						wantMatch(t, r, p, first <= x && x <= last)
					}
				}
			}
		}
	}
}

// P13.1: with each bit of the address turned alone, the packet is inside just when the bit is below the network's.
func TestAddrBits(t *testing.T) {
	for _, b := range bases() {
		for _, s := range sides() {
			for bits := 0; bits <= 32; bits++ {
				for _, a := range someAddrs() {
					n := api.Net{Addr: uint32(uint64(a) >> (32 - bits) << (32 - bits)), Bits: bits}
					for i := range 32 {
						r, p := b.r, b.p
						*s.net(&r) = n
						*s.addr(&p) = a ^ 1<<(31-i)
						wantMatch(t, r, p, i >= bits)
					}
				}
			}
		}
	}
}

// P13.1, P3.2: networks that are not valid contain nothing, not even their own address.
func TestNetsNotValid(t *testing.T) {
	for _, b := range bases() {
		for _, s := range sides() {
			try := func(n api.Net, want bool) {
				for _, a := range append(someAddrs(), n.Addr, n.Addr-1, n.Addr+1, ^n.Addr) {
					r, p := b.r, b.p
					*s.net(&r) = n
					*s.addr(&p) = a
					wantMatch(t, r, p, want)
				}
			}
			for _, bits := range []int{-1, -2, -8, -24, -32, -33, -64, 33, 34, 35, 40, 63, 64, 65, 96, 128, 256, 288, 1<<32 + 8, -1<<32 + 8, maxBits, maxBits - 1, minBits, minBits + 1, minBits + 32} {
				for _, a := range someAddrs() {
					try(api.Net{Addr: a, Bits: bits}, false)
				}
			}
			// An address bit below the network's.
			for bits := 0; bits < 32; bits++ {
				for i := bits; i < 32; i++ {
					try(api.Net{Addr: 1 << (31 - i), Bits: bits}, false)
				}
			}
			// All of those bits, with and without the other ones.
			for bits := 0; bits < 32; bits++ {
				try(api.Net{Addr: 0xffffffff, Bits: bits}, false)
				try(api.Net{Addr: uint32(uint64(0xffffffff) >> bits), Bits: bits}, false)
			}
			try(api.Net{}, true)
		}
	}
}

// P13.1: all numbers of bits from -1 to 34 (and some beyond) with all addresses, each of the two, against the definition.
func TestNetsSlowly(t *testing.T) {
	for _, s := range sides() {
		for bits := -3; bits <= 36; bits++ {
			for _, a := range someAddrs() {
				for keep := 0; keep <= 32; keep++ {
					n := api.Net{Addr: uint32(uint64(a) >> (32 - keep) << (32 - keep)), Bits: bits}
					for _, x := range append(someAddrs(), n.Addr, n.Addr^1, n.Addr^1<<31) {
						r, p := web()
						*s.net(&r) = n
						*s.addr(&p) = x
						wantMatch(t, r, p, slowHas(n, x))
					}
				}
			}
		}
	}
}

// portEdges returns the ports at which a comparison may go wrong.
func portEdges() []uint16 {
	return []uint16{0, 1, 2, 79, 80, 81, 127, 128, 255, 256, 257, 32766, 32767, 32768, 32769, 65279, 65280, 65533, 65534, 65535}
}

// P13.1: port ranges with a port below, at, between, at and above their ends; ranges of one port; ranges that contain nothing.
func TestSpans(t *testing.T) {
	for _, b := range bases() {
		for _, s := range sides() {
			for _, low := range portEdges() {
				for _, high := range portEdges() {
					for _, port := range portEdges() {
						r, p := b.r, b.p
						*s.span(&r) = api.Span{Low: low, High: high}
						*s.port(&p) = port
						inside := int(low) <= int(port) && int(port) <= int(high)
						wantMatch(t, r, p, inside)
					}
				}
			}
		}
	}
}

// P13.1: the ports that ranges contain are counted: all of them, each once.
func TestAllPorts(t *testing.T) {
	for _, s := range sides() {
		for _, c := range []struct {
			span        api.Span
			first, last int
		}{
			{all, 0, 65535},
			{api.Span{}, 0, 0},
			{api.Span{Low: 0, High: 1}, 0, 1},
			{api.Span{Low: 1, High: 65534}, 1, 65534},
			{api.Span{Low: 80, High: 80}, 80, 80},
			{api.Span{Low: 80, High: 90}, 80, 90},
			{api.Span{Low: 32767, High: 32768}, 32767, 32768},
			{api.Span{Low: 255, High: 256}, 255, 256},
			{api.Span{Low: 65535, High: 65535}, 65535, 65535},
			{api.Span{Low: 65534, High: 65535}, 65534, 65535},
			// Nothing is from a greater Low to a smaller High: the ports do not wrap around.
			{api.Span{Low: 1, High: 0}, 1, 0},
			{api.Span{Low: 65535, High: 0}, 1, 0},
			{api.Span{Low: 90, High: 80}, 1, 0},
			{api.Span{Low: 81, High: 80}, 1, 0},
			{api.Span{Low: 65535, High: 65534}, 1, 0},
			{api.Span{Low: 32768, High: 32767}, 1, 0},
		} {
			for port := range 65536 {
				r, p := web()
				*s.span(&r) = c.span
				*s.port(&p) = uint16(port)
				if Matches(r, p) != (c.first <= port && port <= c.last) {
					t.Fatal(s.name, c.span, port)
				}
			}
		}
	}
}

// P13.1: the range of one port contains that port alone, for each port.
func TestOnePort(t *testing.T) {
	for _, s := range sides() {
		for port := range 65536 {
			r, p := web()
			n := uint16(port)
			*s.span(&r) = api.Span{Low: n, High: n}
			for _, c := range []struct {
				port uint16
				want bool
			}{{n, true}, {n - 1, false}, {n + 1, false}, {n ^ 1<<8, false}, {n ^ 1<<15, false}} {
				*s.port(&p) = c.port
				if Matches(r, p) != c.want {
					t.Fatal(s.name, port, c.port)
				}
			}
		}
	}
}

// wrongParts returns for each of the five parts the ways in which it is wrong for web's packet.
func wrongParts() [5][]func(r *api.Rule) {
	return [5][]func(r *api.Rule){
		{
			func(r *api.Rule) { r.Proto = api.UDP },
			func(r *api.Rule) { r.Proto = api.ICMP },
			func(r *api.Rule) { r.Proto = 255 },
		},
		{
			func(r *api.Rule) { r.Src = api.Net{Addr: 0x0b000000, Bits: 8} },
			func(r *api.Rule) { r.Src = api.Net{Addr: 0x0a010203, Bits: 8} },
			func(r *api.Rule) { r.Src.Bits = 33 },
		},
		{
			func(r *api.Rule) { r.Dst = api.Net{Addr: 0xc0a80200, Bits: 24} },
			func(r *api.Rule) { r.Dst = api.Net{Addr: 0xc0a80102, Bits: 24} },
			func(r *api.Rule) { r.Dst.Bits = -1 },
		},
		{
			func(r *api.Rule) { r.SPort = api.Span{Low: 1501, High: 2000} },
			func(r *api.Rule) { r.SPort = api.Span{Low: 1000, High: 1499} },
			func(r *api.Rule) { r.SPort = api.Span{Low: 2000, High: 1000} },
		},
		{
			func(r *api.Rule) { r.DPort = api.Span{Low: 86, High: 90} },
			func(r *api.Rule) { r.DPort = api.Span{Low: 80, High: 84} },
			func(r *api.Rule) { r.DPort = api.Span{Low: 90, High: 80} },
		},
	}
}

// P13.1: each of the five parts wrong alone, and each set of them: all five must be right.
func TestParts(t *testing.T) {
	for way := range 3 {
		for set := range 32 {
			r, p := web()
			for i, ways := range wrongParts() {
				if set>>i&1 != 0 {
					ways[way](&r)
				}
			}
			wantMatch(t, r, p, set == 0)
		}
	}
	// Each way of one part with each way of another one.
	for i, some := range wrongParts() {
		for j, others := range wrongParts() {
			for _, wrong := range some {
				for _, alsoWrong := range others {
					r, p := web()
					wrong(&r)
					wantMatch(t, r, p, false)
					if i != j {
						alsoWrong(&r)
						wantMatch(t, r, p, false)
					}
				}
			}
		}
	}
}

// P13.1: each set of the packet's five parts wrong, in the rule of no open part.
func TestPacketParts(t *testing.T) {
	for set := range 32 {
		r, p := web()
		if set&1 != 0 {
			p.Proto = api.UDP
		}
		if set&2 != 0 {
			p.Src = 0x0b010203
		}
		if set&4 != 0 {
			p.Dst = 0xc0a80202
		}
		if set&8 != 0 {
			p.SPort = 2048
		}
		if set&16 != 0 {
			p.DPort = 79
		}
		wantMatch(t, r, p, set == 0)
	}
}

// P13.1: the two directions are told apart.
func TestDirections(t *testing.T) {
	r, p := web()
	wantMatch(t, r, p, true)
	turned := p
	turned.Src, turned.Dst = p.Dst, p.Src
	wantMatch(t, r, turned, false)
	ported := p
	ported.SPort, ported.DPort = p.DPort, p.SPort
	wantMatch(t, r, ported, false)
	both := turned
	both.SPort, both.DPort = p.DPort, p.SPort
	wantMatch(t, r, both, false)

	// The rule of the other direction matches the packet of the other direction alone.
	reply := r
	reply.Src, reply.Dst, reply.SPort, reply.DPort = r.Dst, r.Src, r.DPort, r.SPort
	wantMatch(t, reply, both, true)
	wantMatch(t, reply, p, false)
	wantMatch(t, reply, turned, false)
	wantMatch(t, reply, ported, false)

	// With one part alone, all others being open.
	for i, s := range sides() {
		other := sides()[1-i]
		r := open(true, api.Any)
		*s.net(&r) = api.Net{Addr: 0x0a000000, Bits: 8}
		var p api.Packet
		*s.addr(&p) = 0x0a000001
		wantMatch(t, r, p, true)
		p = api.Packet{}
		*other.addr(&p) = 0x0a000001
		wantMatch(t, r, p, false)

		r = open(true, api.Any)
		*s.span(&r) = api.Span{Low: 5, High: 9}
		p = api.Packet{}
		*s.port(&p) = 7
		wantMatch(t, r, p, true)
		p = api.Packet{}
		*other.port(&p) = 7
		wantMatch(t, r, p, false)
	}
}

// P13.1: Accept, Flags and Kind make no difference to Matches; packets that are not valid match as their parts say.
func TestOtherFields(t *testing.T) {
	right, p := web()
	wrong := right
	wrong.DPort = api.Span{Low: 86, High: 90}
	for flags := range 256 {
		for kind := range 256 {
			p.Flags, p.Kind = uint8(flags), uint8(kind)
			for _, accept := range []bool{false, true} {
				right.Accept, wrong.Accept = accept, accept
				if !Matches(right, p) || Matches(wrong, p) {
					t.Fatal(flags, kind, accept)
				}
			}
		}
	}
	// An ICMP packet of two ports, of a kind that is none, with flags.
	wantMatch(t, open(true, api.ICMP), api.Packet{Proto: api.ICMP, SPort: 1, DPort: 2, Kind: 3, Flags: 255}, true)
	r := open(true, api.ICMP)
	r.SPort = api.Span{Low: 1, High: 1}
	wantMatch(t, r, api.Packet{Proto: api.ICMP, SPort: 1, DPort: 2, Kind: 3}, true)
	wantMatch(t, r, api.Packet{Proto: api.ICMP, SPort: 2, DPort: 1, Kind: 3}, false)
	wantMatch(t, r, api.Packet{Proto: api.ICMP, SPort: 1, DPort: 1, Kind: api.Echo}, true)
	// A UDP packet with flags, and one of a protocol that no packet has.
	wantMatch(t, open(true, api.UDP), api.Packet{Proto: api.UDP, Flags: api.Syn, Kind: api.Echo}, true)
	wantMatch(t, open(true, 200), api.Packet{Proto: 200, Src: 1, Dst: 2, SPort: 3, DPort: 4, Flags: 5, Kind: 6}, true)
}

// P13.1: rules that are not valid match as their parts say.
func TestRulesNotValid(t *testing.T) {
	// A Proto that is none of a valid rule is still the Proto of a packet.
	for _, proto := range []uint8{2, 5, 7, 16, 18, 128, 255} {
		r := open(true, proto)
		if rules.Good(r) {
			t.Fatal(proto)
		}
		wantMatch(t, r, api.Packet{Proto: proto}, true)
		wantMatch(t, r, api.Packet{Proto: api.TCP}, false)
	}
	// The zero rule is valid and matches port 0 of both directions alone.
	wantMatch(t, api.Rule{}, api.Packet{}, true)
	wantMatch(t, api.Rule{}, api.Packet{Proto: 6, Src: 0xffffffff, Dst: 1, Flags: 1, Kind: 1}, true)
	wantMatch(t, api.Rule{}, api.Packet{SPort: 1}, false)
	wantMatch(t, api.Rule{}, api.Packet{DPort: 1}, false)
	// What is not valid contains nothing, so nothing matches the rule.
	_, p := web()
	for _, r := range []api.Rule{
		{Src: api.Net{Bits: 33}, SPort: all, DPort: all},
		{Dst: api.Net{Bits: 33}, SPort: all, DPort: all},
		{Src: api.Net{Addr: 1}, SPort: all, DPort: all},
		{Dst: api.Net{Addr: 1}, SPort: all, DPort: all},
		{SPort: api.Span{Low: 1}, DPort: all},
		{SPort: all, DPort: api.Span{Low: 1}},
	} {
		if rules.Good(r) {
			t.Fatal(r)
		}
		wantMatch(t, r, p, false)
		wantMatch(t, r, api.Packet{}, false)
	}
}

// P13.1: with no rule there is none that matches.
func TestNoRules(t *testing.T) {
	_, p := web()
	whole := []api.Rule{open(true, api.Any)}
	for _, list := range [][]api.Rule{nil, {}, make([]api.Rule, 0, 4), whole[:0]} {
		for _, p := range []api.Packet{{}, p, {Proto: 255, Src: 1, Dst: 2, SPort: 3, DPort: 4, Flags: 5, Kind: 6}} {
			wantFirst(t, -1, false, p, list...)
		}
	}
}

// P13.1: one rule that accepts, drops, and does not match.
func TestOneRule(t *testing.T) {
	r, p := web()
	wantFirst(t, 0, true, p, r)
	r.Accept = false
	wantFirst(t, 0, false, p, r)
	p.DPort = 79
	wantFirst(t, -1, false, p, r)
	r.Accept = true
	wantFirst(t, -1, false, p, r)
}

// P13.1: the first rule that matches at each place of lists of many lengths, also above the limit of a text.
func TestPlaces(t *testing.T) {
	_, p := web()
	for _, size := range []int{1, 2, 3, 8, 63, 64, 65, 100, 257, 1000} {
		for place := range size {
			for _, accept := range []bool{false, true} {
				// No other one matches, and all of them have the other verdict.
				list := slices.Repeat([]api.Rule{closed(!accept)}, size)
				list[place] = open(accept, api.Any)
				wantFirst(t, place, accept, p, list...)
				// All behind it match too, with the other verdict.
				for i := place + 1; i < size; i++ {
					list[i] = open(!accept, api.Any)
				}
				wantFirst(t, place, accept, p, list...)
			}
		}
		for _, accept := range []bool{false, true} {
			list := slices.Repeat([]api.Rule{closed(accept)}, size)
			wantFirst(t, -1, false, p, list...)
			list = slices.Repeat([]api.Rule{open(accept, api.Any)}, size)
			wantFirst(t, 0, accept, p, list...)
		}
	}
}

// P13.1: very long lists, with the first rule that matches at their end.
func TestLongLists(t *testing.T) {
	_, p := web()
	for _, size := range []int{4095, 65535, 65536, 65537, 200000} {
		list := slices.Repeat([]api.Rule{closed(true)}, size)
		wantFirst(t, -1, false, p, list...)
		list[size-1] = open(true, api.TCP)
		wantFirst(t, size-1, true, p, list...)
		list[size-1].Accept = false
		wantFirst(t, size-1, false, p, list...)
	}
}

// P13.1: each set of rules that match with each set of verdicts: the first one counts alone.
func TestVerdicts(t *testing.T) {
	r, p := web()
	const size = 7
	for set := range 1 << size {
		for verdicts := range 1 << size {
			list := slices.Repeat([]api.Rule{r}, size)
			n, accept := -1, false
			for i := range list {
				list[i].Accept = verdicts>>i&1 != 0
				if set>>i&1 == 0 {
					list[i].Proto = api.UDP
				} else if n < 0 {
					n, accept = i, list[i].Accept
				}
			}
			wantFirst(t, n, accept, p, list...)
		}
	}
}

// P13.1: a rule that matches fewer packets does not come before a wider one that is ahead of it.
func TestWiderFirst(t *testing.T) {
	narrow, p := web()
	wide := open(false, api.Any)
	wantFirst(t, 0, false, p, wide, narrow)
	wantFirst(t, 0, true, p, narrow, wide)
	half := open(false, api.TCP)
	wantFirst(t, 0, false, p, half, narrow, wide)
	wantFirst(t, 1, true, p, open(false, api.UDP), narrow, half, wide)
	p.DPort = 79
	wantFirst(t, 2, false, p, open(true, api.UDP), narrow, half, wide)
	p.Proto = api.ICMP
	wantFirst(t, 3, false, p, open(true, api.UDP), narrow, open(true, api.TCP), wide)
}

// P13.1: rules ahead of the first one that matches, each wrong in another part.
func TestFirstByParts(t *testing.T) {
	for way := range 3 {
		right, p := web()
		var list []api.Rule
		for _, ways := range wrongParts() {
			r := right
			r.Accept = false
			ways[way](&r)
			list = append(list, r)
			wantFirst(t, -1, false, p, list...)
			wantFirst(t, len(list), true, p, append(slices.Clone(list), right)...)
			wantFirst(t, len(list), true, p, append(slices.Clone(list), right, open(false, api.Any))...)
		}
	}
}

// P13.1: rules that are not valid among the others: they match as their parts say, wherever they are.
func TestNotValidAmongOthers(t *testing.T) {
	p := api.Packet{Proto: 99, Src: 0x0a010203, Dst: 0x0b000001, SPort: 100, DPort: 200}
	odd := open(false, 99)
	nets := open(true, api.Any)
	nets.Src = api.Net{Addr: 0x0a010203, Bits: 8}
	bits := open(true, api.Any)
	bits.Dst.Bits = 33
	ports := open(true, api.Any)
	ports.SPort = api.Span{Low: 200, High: 50}
	nothing := []api.Rule{nets, bits, ports}
	wantFirst(t, -1, false, p, nothing...)
	wantFirst(t, 3, false, p, append(nothing[:3:3], odd)...)
	wantFirst(t, 3, false, p, append(nothing[:3:3], odd, open(true, 0))...)
	wantFirst(t, 3, true, p, append(nothing[:3:3], open(true, 0), odd)...)
	for i := range 4 {
		list := slices.Insert(slices.Clone(nothing), i, odd)
		wantFirst(t, i, false, p, list...)
		wantFirst(t, -1, false, api.Packet{Proto: 98}, list...)
	}
}

// arbitraryNet returns a network that often contains a, is often at its edge, and is sometimes not valid.
func arbitraryNet(r *rand.Rand, a uint32) api.Net {
	switch r.Intn(6) {
	case 0:
		return api.Net{}
	case 1:
		return api.Net{Addr: r.Uint32(), Bits: r.Intn(40) - 4}
	case 2:
		a ^= 1 << r.Intn(32)
	case 3:
		a += uint32(r.Intn(5)) - 2
	}
	bits := r.Intn(33)
	n := api.Net{Addr: uint32(uint64(a) >> (32 - bits) << (32 - bits)), Bits: bits}
	if r.Intn(16) == 0 {
		n.Bits += r.Intn(5) - 2
	}
	return n
}

// arbitrarySpan returns a port range whose ends are often near the port.
func arbitrarySpan(r *rand.Rand, port uint16) api.Span {
	switch r.Intn(4) {
	case 0:
		return all
	case 1:
		return api.Span{Low: uint16(r.Uint32()), High: uint16(r.Uint32())}
	case 2:
		return api.Span{Low: port + uint16(r.Intn(5)) - 2, High: port + uint16(r.Intn(5)) - 2}
	}
	return api.Span{Low: port - uint16(r.Intn(300)), High: port + uint16(r.Intn(300))}
}

// arbitraryPacket returns a packet of any fields, valid or not.
func arbitraryPacket(r *rand.Rand) api.Packet {
	protos := []uint8{0, 1, 6, 17, 17, 6, uint8(r.Uint32())}
	return api.Packet{
		Proto: protos[r.Intn(len(protos))],
		Src:   r.Uint32(),
		Dst:   r.Uint32() >> r.Intn(33),
		SPort: uint16(r.Uint32()),
		DPort: uint16(r.Uint32() >> r.Intn(33)),
		Flags: uint8(r.Uint32()),
		Kind:  uint8(r.Uint32()),
	}
}

// arbitraryRule returns a rule that often matches p, and often fails to by little.
func arbitraryRule(r *rand.Rand, p api.Packet) api.Rule {
	protos := []uint8{0, 0, p.Proto, p.Proto, p.Proto, 6, uint8(r.Uint32())}
	return api.Rule{
		Accept: r.Intn(2) == 0,
		Proto:  protos[r.Intn(len(protos))],
		Src:    arbitraryNet(r, p.Src),
		Dst:    arbitraryNet(r, p.Dst),
		SPort:  arbitrarySpan(r, p.SPort),
		DPort:  arbitrarySpan(r, p.DPort),
	}
}

// P13.1: arbitrary rules and packets against the reference.
func TestArbitraryRules(t *testing.T) {
	r := rand.New(rand.NewSource(13))
	matched := 0
	const calls = 300000
	for range calls {
		p := arbitraryPacket(r)
		rule := arbitraryRule(r, p)
		want := slowMatches(rule, p)
		if Matches(rule, p) != want {
			t.Fatalf("Matches(%v, %v) = %v", rule, p, !want)
		}
		if want {
			matched++
		}
	}
	if matched < calls/20 || matched > calls*19/20 {
		t.Errorf("%d of %d rules matched: the arbitrary ones tell little", matched, calls)
	}
}

// P13.1: arbitrary lists against the reference.
func TestArbitraryLists(t *testing.T) {
	r := rand.New(rand.NewSource(131))
	var none, first, behind int
	for range 40000 {
		p := arbitraryPacket(r)
		var list []api.Rule
		for range r.Intn(20) {
			list = append(list, arbitraryRule(r, p))
		}
		n, accept := slowFirst(list, p)
		wantFirst(t, n, accept, p, list...)
		switch {
		case n < 0:
			none++
		case n == 0:
			first++
		default:
			behind++
		}
	}
	if none < 1000 || first < 1000 || behind < 1000 {
		t.Errorf("none %d, first %d, behind %d: the arbitrary ones tell little", none, first, behind)
	}
}

// P13.1: First is the least index at which Matches holds.
func TestFirstByMatches(t *testing.T) {
	r := rand.New(rand.NewSource(1313))
	for range 20000 {
		p := arbitraryPacket(r)
		list := make([]api.Rule, r.Intn(80))
		for i := range list {
			list[i] = arbitraryRule(r, p)
		}
		n, accept := First(list, p)
		for i, rule := range list {
			if Matches(rule, p) {
				if n != i || accept != rule.Accept {
					t.Fatal(list, p, n, accept)
				}
				break
			}
			if n == i {
				t.Fatal(list, p, n, accept)
			}
		}
		if n >= len(list) || n < -1 {
			t.Fatal(list, p, n, accept)
		}
	}
}

// R4: the list is not changed, nor its spare capacity.
func TestListUnchanged(t *testing.T) {
	r := rand.New(rand.NewSource(14))
	for range 2000 {
		p := arbitraryPacket(r)
		whole := make([]api.Rule, 12)
		for i := range whole {
			whole[i] = arbitraryRule(r, p)
		}
		kept := slices.Clone(whole)
		from := r.Intn(len(whole))
		First(whole[from:from+r.Intn(len(whole)-from+1)], p)
		if !slices.Equal(whole, kept) {
			t.Fatalf("the list was %v and is %v", kept, whole)
		}
	}
}

// R4, P13.1: what is behind the list's end, in its spare capacity, is none of its rules; nor is what is ahead of it.
func TestSpareCapacity(t *testing.T) {
	_, p := web()
	whole := slices.Repeat([]api.Rule{open(true, api.Any)}, 5)
	whole[2] = closed(true)
	wantFirst(t, -1, false, p, whole[:0]...)
	wantFirst(t, -1, false, p, whole[2:2]...)
	wantFirst(t, -1, false, p, whole[2:3]...)
	wantFirst(t, 1, true, p, whole[2:4]...)
	wantFirst(t, -1, false, p, whole[5:]...)
	whole[3].Accept = false
	wantFirst(t, 1, false, p, whole[2:]...)
}

// R5: nothing is kept between calls: what is changed in a list, or asked between, makes just its own difference.
func TestNothingKept(t *testing.T) {
	r, p := web()
	list := []api.Rule{closed(true), r, open(false, api.Any)}
	for range 3 {
		wantFirst(t, 1, true, p, list...)
		list[1].Accept = false
		wantFirst(t, 1, false, p, list...)
		list[1].DPort.High = 84
		wantFirst(t, 2, false, p, list...)
		list[2].Accept = true
		wantFirst(t, 2, true, p, list...)
		wantFirst(t, -1, false, p, list[:2]...)
		list[0] = open(true, api.TCP)
		wantFirst(t, 0, true, p, list...)
		other := p
		other.Proto = api.UDP
		wantFirst(t, 2, true, other, list...)
		wantFirst(t, 0, true, p, list...)
		list[0], list[1], list[2] = closed(true), r, open(false, api.Any)
	}
	// The same calls in another order give the same answers.
	source := rand.New(rand.NewSource(15))
	type call struct {
		list   []api.Rule
		p      api.Packet
		n      int
		accept bool
	}
	var calls []call
	for range 500 {
		c := call{p: arbitraryPacket(source)}
		for range source.Intn(6) {
			c.list = append(c.list, arbitraryRule(source, c.p))
		}
		c.n, c.accept = First(c.list, c.p)
		calls = append(calls, c)
	}
	for range 3 {
		source.Shuffle(len(calls), func(i, j int) { calls[i], calls[j] = calls[j], calls[i] })
		for _, c := range calls {
			wantFirst(t, c.n, c.accept, c.p, c.list...)
		}
	}
}
