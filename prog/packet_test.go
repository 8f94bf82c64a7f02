package prog

import (
	"math"
	"slices"
	"testing"

	"mantlet/api"
	"mantlet/ip"
	"mantlet/sum"
	"mantlet/tcp"
)

// P21.1, P21.2: a packet that opens a flow, of each protocol, from each end, in each of several stripes.
func TestOpens(t *testing.T) {
	for _, proto := range []uint8{api.TCP, api.UDP, api.ICMP} {
		for _, down := range []bool{false, true} {
			state := map[uint8]int{api.TCP: 1, api.UDP: 8, api.ICMP: 8}[proto]
			b := newBench(t)
			b.pairs["p"] = somePair(proto, 2, 0, 0, down)
			b.pairs["q"] = somePair(proto, 2, 1, 0, down)
			b.begin(7, 3, b.pairs["p"].sent(opening)).does(
				"lock 0 read 0 call",
				"load 0 read 2",
				"store 0 write 0 act 1 p",
				"unlock 0",
				"load 1",
				"store 1 count 1 return 1 0")
			b.wantKeys("p")
			b.wantFlow(6, state, 1, times()[state])
			b.whole(7, 4, tick(10), number(10))
			b.begin(8, -1, b.pairs["q"].sent(opening)).does(
				"lock 1 read 1 call",
				"load 0 read 2",
				"store 0 write 1 act 1 q",
				"unlock 1",
				"load 1",
				"store 1 count 1 return 1 0")
			b.wantKeys("p", "q")
			b.wantFlow(6, state, 1, times()[state])
			b.wantFlow(7, state, 1, times()[state]+10)
			b.wantGate(0, 2, 10)
			b.wantStats(2, 0, 0, 0, 0)
		}
	}
}

// P21.1: the flow is present from the enter on, and not before.
func TestOpensInEnter(t *testing.T) {
	b := newBench(t)
	r := b.begin(0, 0, b.pairs["a"].sent(opening))
	for _, line := range []string{"lock 0 read 0 call", "load 0 read 2"} {
		r.does(line)
		b.wantKeys()
		b.wantGate(0, 0, 0)
		if b.s.memory.Words() != 6 {
			t.Errorf("%q: %d words", line, b.s.memory.Words())
		}
	}
	for _, line := range []string{"store 0 write 0 act 1 a", "unlock 0", "load 1", "store 1 count 1 return 1 0"} {
		b.wantStats(0, 0, 0, 0, 0)
		r.does(line)
		b.wantKeys("a")
		b.wantGate(0, 1, 0)
		if b.s.memory.Words() != 7 {
			t.Errorf("%q: %d words", line, b.s.memory.Words())
		}
	}
	b.wantStats(1, 0, 0, 0, 0)
}

// P21.1, P21.2: the largest and the smallest number of stripes.
func TestStripes(t *testing.T) {
	for _, stripes := range []int{1, 4096} {
		b := benchOf(t, stripes, 1, open())
		r := b.begin(0, 0, b.pairs["x"].sent(opening))
		if stripes == 1 {
			r.does("lock 0 read 0 call", "load 0 read 1", "store 0 write 0 act 1 x", "unlock 0", "load 1", "store 1 count 1 return 1 0")
		} else {
			r.does("lock 4095 read 4095 call", "load 0 read 4096", "store 0 write 4095 act 1 x", "unlock 4095", "load 1", "store 1 count 1 return 1 0")
		}
	}
}

// P21.1, P21.2: a packet of a flow that is there, accepted, in both directions.
func TestFollows(t *testing.T) {
	for _, down := range []bool{false, true} {
		b := newBench(t)
		b.pairs["a"] = somePair(api.TCP, 2, 1, 2, down)
		a := b.pairs["a"]
		b.whole(1, 0, a.sent(opening), verdict(accepted))
		for i, x := range []struct {
			op    api.Op
			state int
		}{
			{a.sent(opening), 1}, {a.replied(answer), 2}, {a.sent(opening), 2}, {a.replied(answer), 2}, {a.sent(plain), 3}, {a.replied(plain), 3},
			{a.replied(ending), 5}, {a.replied(ending), 5}, {a.sent(plain), 5}, {a.sent(ending), 6}, {a.replied(reset), 7},
		} {
			b.whole(1, i, tick(1), number(i+1))
			b.begin(i, 99, x.op).does(
				"lock 1 read 1 call",
				"unlock 1",
				"load 6",
				"load 0 mark",
				"store 6 fill 1 a",
				"load 1",
				"store 1 count 1 return 1 0")
			b.wantFlow(6, x.state, i+2, i+1+times()[x.state])
		}
		b.wantKeys("a")
		b.wantGate(0, 1, 11)
		b.wantStats(12, 0, 0, 0, 0)
		if b.s.memory.Words() != 7 {
			t.Errorf("%d words", b.s.memory.Words())
		}
	}
}

// P21.1, P21.2: the same for the other protocols.
func TestFollowsTalk(t *testing.T) {
	for _, proto := range []uint8{api.UDP, api.ICMP} {
		for _, down := range []bool{false, true} {
			b := newBench(t)
			b.pairs["p"] = somePair(proto, 2, 0, 1, down)
			p := b.pairs["p"]
			b.whole(1, 0, p.sent(0), verdict(accepted))
			for i, x := range []struct {
				op    api.Op
				state int
			}{{p.sent(0), 8}, {p.replied(0), 9}, {p.sent(0), 9}, {p.replied(0), 9}} {
				b.begin(1, i, x.op).does("lock 0 read 0 call", "unlock 0", "load 6", "load 0 mark", "store 6 fill 1 p", "load 1", "store 1 count 1 return 1 0")
				b.wantFlow(6, x.state, i+2, times()[x.state])
			}
		}
	}
}

// P21.1, P21.2: a packet that is not valid in its flow increases only the Seq.
func TestInvalidInFlow(t *testing.T) {
	for _, down := range []bool{false, true} {
		b := newBench(t)
		b.pairs["a"] = somePair(api.TCP, 2, 0, 5, down)
		a := b.pairs["a"]
		b.whole(1, 0, a.sent(opening), verdict(accepted))
		b.whole(1, 1, tick(4), number(4))
		for i, x := range []api.Op{a.replied(opening), a.sent(answer), a.sent(plain), a.replied(plain), a.sent(ending), a.replied(ending)} {
			b.begin(9, i, x).does(
				"lock 0 read 0 call",
				"unlock 0",
				"load 6",
				"load 0 mark",
				"store 6 fill 4 a",
				"load 4",
				"store 4 count 4 return 4 0")
			b.wantFlow(6, 1, i+2, times()[1])
		}
		b.wantStats(1, 0, 0, 6, 0)
		b.wantGate(0, 1, 4)
	}
}

// P21.1, P21.2: an echo reply from the end that opened the flow, and an echo from the other one.
func TestInvalidPing(t *testing.T) {
	b := newBench(t)
	b.pairs["p"] = somePair(api.ICMP, 2, 1, 0, false)
	p := b.pairs["p"]
	b.whole(1, 0, p.sent(0), verdict(accepted))
	for i, x := range []api.Packet{p.packet(0, 0, api.EchoReply), p.packet(1, 0, api.Echo)} {
		b.begin(9, i, send(x)).does("lock 1 read 1 call", "unlock 1", "load 6", "load 0 mark", "store 6 fill 4 p", "load 4", "store 4 count 4 return 4 0")
		b.wantFlow(6, 8, i+2, times()[8])
	}
}

// P21.1, P21.2: verdicts on packets without a flow.
func TestRefused(t *testing.T) {
	for _, x := range []struct {
		verdict int
		op      func(pair) api.Op
		list    []api.Rule
		limit   int
	}{
		{denied, func(p pair) api.Op { return p.sent(opening) }, nil, 5},
		{denied, func(p pair) api.Op { return p.sent(opening) }, shut(), 5},
		{denied, func(p pair) api.Op { return p.sent(plain) }, shut(), 1},
		{denied, func(p pair) api.Op { return p.sent(opening) }, shut(), 1},
		{denied, func(p pair) api.Op { return p.sent(opening) }, []api.Rule{only(true, api.UDP), every(false), every(true)}, 5},
		{invalid, func(p pair) api.Op { return p.sent(answer) }, open(), 5},
		{invalid, func(p pair) api.Op { return p.sent(plain) }, open(), 1},
		{invalid, func(p pair) api.Op { return p.replied(reset) }, open(), 5},
		{isFull, func(p pair) api.Op { return p.sent(opening) }, []api.Rule{only(false, api.ICMP), every(true), every(false)}, 1},
	} {
		b := benchOf(t, 4, x.limit, nil)
		// A flow is there already, and the rules come with version 1.
		b.whole(0, 0, swap(openText), number(1))
		b.whole(0, 1, somePair(api.UDP, 4, 0, 0, false).sent(0), verdict(accepted))
		b.s.rules[1] = x.list
		line := map[int]string{denied: "load 0 read 5 act 3 x", invalid: "load 0 read 5 act 4 x", isFull: "load 0 read 5 act 5 x"}[x.verdict]
		last := map[int][]string{denied: {"load 3", "store 3 count 3 return 3 0"}, invalid: {"load 4", "store 4 count 4 return 4 0"}, isFull: {"load 5", "store 5 count 5 return 5 0"}}[x.verdict]
		r := b.begin(2, 1, x.op(b.pairs["x"]))
		r.does("lock 3 read 3 call", line, "unlock 3")
		r.does(last...)
		b.wantGate(1, 1, 0)
		if len(b.s.Keys()) != 1 || b.s.memory.Words() != 7 {
			t.Errorf("keys %v, %d words", b.s.Keys(), b.s.memory.Words())
		}
	}
}

// P21.1: at the cap a packet is Full, and no longer when a flow has gone.
func TestFull(t *testing.T) {
	b := benchOf(t, 2, 2, open())
	a, x := b.pairs["a"], b.pairs["x"]
	b.whole(0, 0, a.sent(opening), verdict(accepted))
	b.whole(0, 1, x.sent(opening), verdict(accepted))
	for i := range 3 {
		b.begin(1, i, b.pairs["b"].sent(opening)).does("lock 0 read 0 call", "load 0 read 2 act 5 b", "unlock 0", "load 5", "store 5 count 5 return 5 0")
		b.wantKeys("a", "x")
		b.wantGate(0, 2, 0)
	}
	// Those that are there go on.
	b.whole(0, 2, a.replied(answer), verdict(accepted))
	b.whole(0, 3, x.sent(opening), verdict(accepted))
	// Those that are over count as long as they are there, but a packet of such a flow makes room for itself.
	b.whole(0, 4, tick(5000), number(5000))
	b.whole(1, 3, b.pairs["b"].sent(opening), verdict(isFull))
	b.whole(1, 4, a.sent(opening), verdict(accepted))
	b.whole(1, 5, x.sent(plain), verdict(invalid))
	b.wantKeys("a")
	b.whole(1, 6, b.pairs["b"].sent(opening), verdict(accepted))
	b.whole(1, 7, b.pairs["c"].sent(opening), verdict(isFull))
	b.wantKeys("a", "b")
	b.wantGate(0, 2, 5000)
	b.wantStats(6, 0, 0, 1, 5)
}

// P21.1: the largest cap.
func TestMostFlows(t *testing.T) {
	b := benchOf(t, 1, 4095, open())
	for i := range 4095 {
		r := Begin(b.s, 0, i, somePair(api.UDP, 1, 0, i, false).sent(0))
		for r.Step() {
		}
		if y, ok := r.Done(); y != verdict(accepted) || !ok {
			t.Fatalf("packet %d: %v, %v", i, y, ok)
		}
	}
	b.learn()
	b.whole(0, 4095, somePair(api.UDP, 1, 0, 4095, false).sent(0), verdict(isFull))
	b.wantGate(0, 4095, 0)
	b.whole(0, 4096, tick(1), number(1))
	b.wantGate(0, 4095, 1)
	b.whole(0, 4097, flush(), number(4095))
	b.wantGate(0, 0, 1)
	b.wantKeys()
}

// P21.1, P21.2: a packet of a flow that is over by the clock removes it and opens it anew, if the rules let it.
func TestOverByClock(t *testing.T) {
	b := newBench(t)
	a := b.pairs["a"]
	b.whole(1, 0, a.sent(opening), verdict(accepted))
	b.whole(1, 1, b.pairs["x"].sent(opening), verdict(accepted))
	b.whole(1, 2, tick(times()[1]-1), number(times()[1]-1))
	b.whole(1, 3, a.replied(plain), verdict(invalid))
	b.whole(1, 4, tick(1), number(times()[1]))
	r := b.begin(3, 8, a.sent(opening))
	r.does(
		"lock 0 read 0 call",
		"unlock 0",
		"load 6",
		"load 0 mark",
		"lock 0 read 0",
		"load 6",
		"load 0")
	b.wantKeys("a", "x")
	r.does("store 6 write 0")
	b.wantFlow(6, 15, 0, 0)
	b.wantKeys("x")
	b.wantGate(0, 2, times()[1])
	r.does("load 0")
	b.wantGate(0, 2, times()[1])
	r.does("store 0 delete 0 a")
	b.wantGate(0, 1, times()[1])
	r.does(
		"load 0 read 2",
		"store 0 write 0 act 1 a",
		"unlock 0",
		"load 1",
		"store 1 count 1 return 1 0")
	b.wantKeys("a", "x")
	b.wantGate(0, 2, times()[1])
	b.wantFlow(6, 15, 0, 0)
	b.wantFlow(8, 1, 1, 2*times()[1])
}

// P21.1, P21.2: a flow that is over is removed also by a packet that then is refused.
func TestOverAndRefused(t *testing.T) {
	for _, x := range []struct {
		flags   uint8
		text    string
		verdict int
		last    []string
	}{
		{plain, openText, invalid, []string{"load 0 read 3 act 4 a", "unlock 0", "load 4", "store 4 count 4 return 4 0"}},
		{opening, shutText, denied, []string{"load 0 read 3 act 3 a", "unlock 0", "load 3", "store 3 count 3 return 3 0"}},
		{answer, "", denied, []string{"load 0 read 3 act 3 a", "unlock 0", "load 3", "store 3 count 3 return 3 0"}},
	} {
		for _, from := range []int{0, 1} {
			b := newBench(t)
			a := b.pairs["a"]
			b.whole(1, 0, a.sent(opening), verdict(accepted))
			b.whole(1, 1, swap(x.text), number(1))
			b.whole(1, 2, tick(1000), number(1000))
			r := b.begin(0, 0, a.op(from, x.flags))
			r.does("lock 0 read 0 call", "unlock 0", "load 6", "load 0 mark", "lock 0 read 0", "load 6", "load 0", "store 6 write 0", "load 0", "store 0 delete 0 a")
			r.does(x.last...)
			b.wantKeys()
			b.wantGate(1, 0, 1000)
		}
	}
}

// P21.1: whoever opens a flow anew is the one that opened it, also if it is the other end.
func TestOpensAnewFromTheOtherEnd(t *testing.T) {
	b := newBench(t)
	a := b.pairs["a"]
	b.whole(1, 0, a.sent(opening), verdict(accepted))
	b.whole(1, 1, a.replied(opening), verdict(invalid))
	b.whole(1, 2, tick(1000), number(1000))
	b.whole(1, 3, a.replied(opening), verdict(accepted))
	b.whole(1, 4, a.replied(answer), verdict(invalid))
	b.whole(1, 5, a.sent(answer), verdict(accepted))
	b.whole(1, 6, a.sent(plain), verdict(invalid))
	b.whole(1, 7, a.replied(plain), verdict(accepted))
	b.wantKeys("a")
}

// P21.1: a flow with the greatest Seq is over, whatever the clock.
func TestOverBySeq(t *testing.T) {
	b := newBench(t)
	a := b.pairs["a"]
	b.whole(1, 0, a.sent(opening), verdict(accepted))
	b.set(6, 1<<60|(topSeq-1)<<40|uint64(times()[1]))
	b.begin(1, 1, a.replied(opening)).does("lock 0 read 0 call", "unlock 0", "load 6", "load 0 mark", "store 6 fill 4 a", "load 4", "store 4 count 4 return 4 0")
	b.wantFlow(6, 1, topSeq, times()[1])
	b.begin(1, 2, a.sent(opening)).does(
		"lock 0 read 0 call", "unlock 0", "load 6", "load 0 mark", "lock 0 read 0", "load 6", "load 0", "store 6 write 0", "load 0", "store 0 delete 0 a",
		"load 0 read 2", "store 0 write 0 act 1 a", "unlock 0", "load 1", "store 1 count 1 return 1 0")
	b.wantFlow(7, 1, 1, times()[1])
	b.set(7, 1<<60|(topSeq-1)<<40|uint64(times()[1]))
	b.whole(1, 3, a.sent(opening), verdict(accepted))
	b.wantFlow(7, 1, topSeq, times()[1])
	b.whole(1, 4, collect(), number(1))
}

// P21.1: at the greatest clock each flow is over at once.
func TestGreatestClock(t *testing.T) {
	b := newBench(t)
	a := b.pairs["a"]
	b.whole(1, 0, tick(math.MaxInt), number(topClock))
	b.whole(1, 1, a.sent(opening), verdict(accepted))
	b.wantFlow(6, 1, 1, topClock)
	b.whole(1, 2, a.sent(opening), verdict(accepted))
	b.wantFlow(7, 1, 1, topClock)
	b.whole(1, 3, a.replied(answer), verdict(invalid))
	b.wantKeys()
}

// mended returns the packet with its header's checksum put right.
func mended(b []byte) []byte {
	clear(b[10:12])
	c := sum.Of(b[:20])
	b[10], b[11] = byte(c>>8), byte(c)
	return b
}

// with returns a copy of b in which a byte is different.
func with(b []byte, at int, c byte) []byte {
	b = slices.Clone(b)
	b[at] = c
	return b
}

// broken returns bytes that are not a packet, by the errors of Parse.
func broken(t *testing.T) map[api.Errno][][]byte {
	p := somePair(api.TCP, 2, 0, 0, false)
	right := p.sent(opening).B
	segment := with(right[20:], 13, 0)
	clear(segment[16:18])
	c := ^sum.Add(tcp.Pseudo(6, p.addr[0], p.addr[1], len(segment)), segment)
	segment[16], segment[17] = byte(c>>8), byte(c)
	made := func(proto uint8, content []byte) []byte {
		b, e := ip.Build(api.Head{Proto: proto, Src: p.addr[0], Dst: p.addr[1]}, content)
		if e != api.OK {
			t.Fatal(e)
		}
		return b
	}
	message := []byte{3, 0, 0, 0, 0, 1, 0, 0}
	c = sum.Of(message)
	message[2], message[3] = byte(c>>8), byte(c)
	return map[api.Errno][][]byte{
		api.ErrOver:    {make([]byte, 1501), append(slices.Clone(right), make([]byte, 1500)...)},
		api.ErrShort:   {nil, {0x45}, right[:19], right[:len(right)-1], made(17, []byte{1, 2, 3})},
		api.ErrVersion: {with(right, 0, 0x65), make([]byte, 1500)},
		api.ErrHead:    {with(right, 0, 0x44)},
		api.ErrSum:     {with(right, 15, 1), with(right, 25, 77)},
		api.ErrFrag:    {mended(with(right, 6, 32)), mended(with(right, 7, 1))},
		api.ErrProto:   {made(0, right[20:]), made(99, nil)},
		api.ErrKind:    {made(1, message)},
		api.ErrFlags:   {made(6, segment)},
	}
}

// P21.1, P21.2: bytes that are no packet only change their counter; the reply has the error of Parse.
func TestMalformed(t *testing.T) {
	b := newBench(t)
	a := b.pairs["a"]
	b.whole(0, 0, a.sent(opening), verdict(accepted))
	n, tried := 0, 0
	for e := api.ErrArg; e <= api.ErrRace; e++ {
		for _, bytes := range broken(t)[e] {
			r := b.begin(n%5, n, api.Op{Kind: isPacket, B: bytes, N: 1, S: openText})
			r.error = e
			r.does("load 2 call act 2 -", "store 2 count 2 return 2 0")
			n++
			b.wantStats(1, uint64(n), 0, 0, 0)
		}
		if len(broken(t)[e]) > 0 {
			tried++
		}
	}
	if tried != 9 || n != 18 {
		t.Errorf("%d errors, %d packets", tried, n)
	}
	b.wantKeys("a")
	b.wantGate(0, 1, 0)
	b.wantFlow(6, 1, 1, times()[1])
	if b.s.memory.Words() != 7 {
		t.Errorf("%d words", b.s.memory.Words())
	}
}

// P21.1: a malformed packet waits for no mutex.
func TestMalformedDoesNotWait(t *testing.T) {
	b := newBench(t)
	for n := range 3 {
		b.s.memory.Lock(9, n)
	}
	b.learn()
	r := b.begin(1, 0, api.Op{Kind: isPacket})
	r.error = api.ErrShort
	r.does("load 2 call act 2 -", "store 2 count 2 return 2 0")
}

// P21.1, P21.2: a counter that is 2^64 - 1 stays so: the op returns with the Load.
func TestCountersEnd(t *testing.T) {
	for v := 1; v <= 5; v++ {
		b := benchOf(t, 2, 1, open())
		b.whole(0, 0, b.pairs["a"].sent(opening), verdict(accepted))
		b.set(v, math.MaxUint64-1)
		for i := range 3 {
			x := b.pairs["a"].sent(opening)
			act := []string{"lock 0 read 0 call", "unlock 0", "load 6", "load 0 mark", "store 6 fill 1 a"}
			last := []string{"load 1", "store 1 count 1 return 1 0"}
			end := []string{"load 1 count 1 return 1 0"}
			e := api.OK
			switch v {
			case malformed:
				x, e = api.Op{Kind: isPacket, B: []byte{}}, api.ErrShort
				act = nil
				last = []string{"load 2 call act 2 -", "store 2 count 2 return 2 0"}
				end = []string{"load 2 call act 2 - count 2 return 2 0"}
			case denied:
				if i == 0 {
					b.whole(0, 0, swap(shutText), number(1))
				}
				x = b.pairs["x"].sent(opening)
				act = []string{"lock 1 read 1 call", "load 0 read 3 act 3 x", "unlock 1"}
				last = []string{"load 3", "store 3 count 3 return 3 0"}
				end = []string{"load 3 count 3 return 3 0"}
			case invalid:
				x = b.pairs["a"].sent(ending)
				act[4] = "store 6 fill 4 a"
				last = []string{"load 4", "store 4 count 4 return 4 0"}
				end = []string{"load 4 count 4 return 4 0"}
			case isFull:
				x = b.pairs["b"].sent(opening)
				act = []string{"lock 0 read 0 call", "load 0 read 2 act 5 b", "unlock 0"}
				last = []string{"load 5", "store 5 count 5 return 5 0"}
				end = []string{"load 5 count 5 return 5 0"}
			}
			if i > 0 {
				last = end
			}
			r := b.begin(4, i, x)
			r.error = e
			r.does(append(slices.Clone(act), last...)...)
			if n := b.s.Stat(v); n != math.MaxUint64 {
				t.Errorf("Stat(%d) = %d", v, n)
			}
		}
	}
}
