package prog

import (
	"math"
	"slices"
	"strconv"
	"strings"
	"testing"

	"mantlet/api"
	"mantlet/key"
	"mantlet/pack"
)

// The kinds of ops, written out; 0 and 7 are of no op.
const (
	isPacket  = 1
	isTick    = 2
	isSwap    = 3
	isFlush   = 4
	isStat    = 5
	isCollect = 6
)

// The verdicts, written out.
const (
	accepted  = 1
	malformed = 2
	denied    = 3
	invalid   = 4
	isFull    = 5
)

// The flags of the segments that the tests send, written out.
const (
	opening = 2      // Syn
	answer  = 2 + 16 // Syn, Ack
	plain   = 16     // Ack
	ending  = 1 + 16 // Fin, Ack
	reset   = 4      // Rst
)

// The greatest numbers, written out.
const (
	topClock   = 1099511627775
	topSeq     = 1048575
	topVersion = 4095
)

// The texts of rules.
const (
	openText = "accept any any any any any\n"
	shutText = "drop any any any any any\n"
)

// edges returns the edges of int, and numbers that would be small if bits of them were lost.
func edges() []int {
	list := []int{math.MinInt, math.MinInt + 1, math.MinInt32, math.MaxInt32, math.MaxUint32, math.MaxInt - 1, math.MaxInt}
	for _, i := range []int{3, 8, 16, 32, 40, 62} {
		for v := range 6 {
			list = append(list, 1<<i+v, -1<<i+v)
		}
	}
	return list
}

// every returns a rule that matches each packet.
func every(accept bool) api.Rule {
	return api.Rule{Accept: accept, SPort: api.Span{High: 65535}, DPort: api.Span{High: 65535}}
}

// only returns a rule that matches each packet of a protocol.
func only(accept bool, proto uint8) api.Rule {
	r := every(accept)
	r.Proto = proto
	return r
}

// open returns rules that accept everything, and shut those that accept nothing.
func open() []api.Rule { return []api.Rule{every(true)} }
func shut() []api.Rule { return []api.Rule{every(false)} }

// times returns timeouts that are different for all states.
func times() [16]int {
	var list [16]int
	for i := range list {
		list[i] = 100 + 7*i*i
	}
	return list
}

// pair is the two ends of a flow, the first of which opens it.
type pair struct {
	proto uint8
	addr  [2]uint32
	port  [2]uint16
}

// packet returns what counts of a packet from the end with this index.
func (p pair) packet(from int, flags, kind uint8) api.Packet {
	to := 1 - from
	return api.Packet{Proto: p.proto, Src: p.addr[from], Dst: p.addr[to], SPort: p.port[from], DPort: p.port[to], Flags: flags, Kind: kind}
}

// key returns the key of the flow.
func (p pair) key() api.Key {
	k, _ := key.Of(p.packet(0, 0, 0))
	return k
}

// send returns the op of a packet.
func send(p api.Packet) api.Op {
	b, e := pack.Build(p, []byte{1, 2, 3})
	if e != api.OK {
		panic("no packet: " + strconv.Itoa(int(e)))
	}
	return api.Op{Kind: isPacket, B: b}
}

// sent returns the op of a packet from the end that opens the flow, and replied one from the other end. The flags are only for TCP.
func (p pair) sent(flags uint8) api.Op    { return p.op(0, flags) }
func (p pair) replied(flags uint8) api.Op { return p.op(1, flags) }

// op returns the op of a packet.
func (p pair) op(from int, flags uint8) api.Op {
	switch {
	case p.proto == api.TCP:
		return send(p.packet(from, flags, 0))
	case p.proto == api.ICMP && from == 0:
		return send(p.packet(from, 0, api.Echo))
	}
	return send(p.packet(from, 0, 0))
}

// somePair returns the pair with this number among those whose flows are in the stripe. If down, the higher end opens the flow.
func somePair(proto uint8, stripes, stripe, number int, down bool) pair {
	for i := 0; ; i++ {
		p := pair{proto, [2]uint32{5, 9 + uint32(i)}, [2]uint16{1025, 80}}
		if proto == api.ICMP {
			p.port[1] = p.port[0]
		}
		if down {
			p.addr[0], p.addr[1] = p.addr[1], p.addr[0]
		}
		if key.Stripe(p.key(), stripes) != stripe {
			continue
		}
		if number == 0 {
			return p
		}
		number--
	}
}

// bench is a shared state and what is expected of it.
type bench struct {
	*testing.T
	s       *Shared
	stripes int
	pairs   map[string]pair
	log     []api.Access
	points  []*api.Point // one with Kind 0 is a mark that is not filled
}

// newBench returns a shared state of two stripes whose rules accept everything. Its pairs are of TCP: a, b and c in stripe 0, and x, y and z in stripe 1.
func newBench(t *testing.T) *bench {
	t.Helper()
	return benchOf(t, 2, 10, open())
}

// benchOf returns a shared state.
func benchOf(t *testing.T, stripes, limit int, list []api.Rule) *bench {
	t.Helper()
	s, e := New(api.Config{Stripes: stripes, Cap: limit, Times: times()}, list)
	if s == nil || e != api.OK {
		t.Fatalf("New: %v, %d", s, e)
	}
	b := &bench{T: t, s: s, stripes: stripes, pairs: map[string]pair{}}
	for i := range 3 {
		b.pairs[string(rune('a'+i))] = somePair(api.TCP, stripes, 0, i, false)
		b.pairs[string(rune('x'+i))] = somePair(api.TCP, stripes, stripes-1, i+3, false)
	}
	return b
}

// keyOf returns the key of the pair with this name; "-" is the name of none.
func (b *bench) keyOf(name string) api.Key {
	if name == "-" {
		return api.Key{}
	}
	p, ok := b.pairs[name]
	if !ok {
		panic("no pair " + name)
	}
	return p.key()
}

// keys returns the keys of the pairs with these names, in order.
func (b *bench) keys(names ...string) []api.Key {
	var list []api.Key
	for _, n := range names {
		list = append(list, b.keyOf(n))
	}
	slices.SortFunc(list, func(x, y api.Key) int {
		if key.Less(x, y) {
			return -1
		}
		return 1
	})
	return list
}

// visible returns the points that are expected to be listed.
func (b *bench) visible() []api.Point {
	var list []api.Point
	for _, p := range b.points {
		if p.Kind != 0 {
			list = append(list, *p)
		}
	}
	return list
}

// same fails the test unless the accesses and points are what is expected.
func (b *bench) same(what string) {
	b.Helper()
	if got := b.s.Log(); !slices.Equal(got, b.log) {
		b.Fatalf("%s: accesses\n%v, want\n%v", what, got, b.log)
	}
	if got, want := b.s.Points(), b.visible(); !slices.Equal(got, want) {
		b.Fatalf("%s: points\n%v, want\n%v", what, got, want)
	}
}

// run is an op that was begun.
type run struct {
	*Run
	*bench
	thread, number int
	mark           *api.Point
	error          api.Errno // that it is expected to return
}

// begin begins an op, and fails the test if this performs anything.
func (b *bench) begin(thread, number int, x api.Op) *run {
	b.Helper()
	r := &run{Run: Begin(b.s, thread, number, x), bench: b, thread: thread, number: number}
	if r.Run == nil {
		b.Fatalf("Begin(s, %d, %d, %v) = nil", thread, number, x)
	}
	b.same("Begin")
	if y, ok := r.Done(); y != (api.Reply{}) || ok {
		b.Fatalf("Begin: done with %v, %v", y, ok)
	}
	return r
}

// whole performs an op as a whole, whatever it does, and fails the test unless it replies so.
func (b *bench) whole(thread, number int, x api.Op, want api.Reply) {
	b.Helper()
	r := Begin(b.s, thread, number, x)
	for r.Step() {
	}
	if y, ok := r.Done(); y != want || !ok {
		b.Fatalf("reply %v, %v, want %v", y, ok, want)
	}
	b.learn()
}

// learn takes what is behind the expected accesses and points as expected.
func (b *bench) learn() {
	b.Helper()
	log, points, want := b.s.Log(), b.s.Points(), b.visible()
	if len(log) < len(b.log) || !slices.Equal(log[:len(b.log)], b.log) {
		b.Fatalf("accesses\n%v, do not begin with\n%v", log, b.log)
	}
	if len(points) < len(want) || !slices.Equal(points[:len(want)], want) {
		b.Fatalf("points\n%v, do not begin with\n%v", points, want)
	}
	b.log = log
	for _, p := range points[len(want):] {
		b.points = append(b.points, &p)
	}
}

// does performs an act for each line, and fails the test unless its accesses and points are those of the line. The line's words are
//
//	lock n, unlock n      a mutex
//	load n, store n       a word
//	read n, write n       a plain location
//	call, count v, tick n, swap n, stat v n, return v n
//	act v name, fill v name, delete n name
//	mark                  a mark, which fill fills
//	waits                 behind the act, the op waits
func (r *run) does(lines ...string) {
	r.Helper()
	for _, line := range lines {
		r.step(line)
	}
}

// step performs an act.
func (r *run) step(line string) {
	r.Helper()
	if y, ok := r.Done(); y != (api.Reply{}) || ok || r.Blocked() {
		r.Fatalf("ahead of %q: done with %v, %v, or blocked", line, y, ok)
	}
	if !r.Step() {
		r.Fatalf("%q: no act", line)
	}
	reply, over, waits := r.expect(strings.Fields(line))
	r.same(line)
	if y, ok := r.Done(); y != reply || ok != over {
		r.Fatalf("%q: done with %v, %v, want %v, %v", line, y, ok, reply, over)
	}
	if r.Blocked() != waits {
		r.Fatalf("%q: blocked: %v", line, !waits)
	}
	if over {
		r.rests("over")
	}
}

// rests fails the test if the op can perform an act.
func (r *run) rests(what string) {
	r.Helper()
	before := r.Blocked()
	for range 3 {
		if r.Step() || r.Blocked() != before {
			r.Fatalf("%s: an act", what)
		}
		r.same(what)
	}
}

// waits fails the test unless the op waits.
func (r *run) waits() {
	r.Helper()
	if !r.Blocked() {
		r.Fatal("not blocked")
	}
	r.rests("waits")
	if y, ok := r.Done(); y != (api.Reply{}) || ok {
		r.Fatalf("waits: done with %v, %v", y, ok)
	}
}

// expect adds a line to what is expected.
func (r *run) expect(words []string) (reply api.Reply, over, waits bool) {
	take := func() string {
		w := words[0]
		words = words[1:]
		return w
	}
	number := func() int {
		n, err := strconv.Atoi(take())
		if err != nil {
			panic(err)
		}
		return n
	}
	for len(words) > 0 {
		switch w := take(); w {
		case "lock", "unlock":
			r.access(map[string]int{"lock": 1, "unlock": 2}[w], 3*number()+1)
		case "load", "store":
			r.access(map[string]int{"load": 3, "store": 4}[w], 3*number())
		case "read", "write":
			r.access(map[string]int{"read": 5, "write": 6}[w], 3*number()+2)
		case "call":
			r.point(1, 0, 0, "-")
		case "act":
			r.point(2, number(), 0, take())
		case "count":
			r.point(3, number(), 0, "-")
		case "delete":
			r.point(4, 0, number(), take())
		case "tick":
			r.point(5, 0, number(), "-")
		case "swap":
			r.point(6, 0, number(), "-")
		case "stat":
			r.point(7, number(), number(), "-")
		case "return":
			reply, over = api.Reply{E: r.error, Verdict: number(), N: number()}, true
			r.point(8, reply.Verdict, reply.N, "-")
		case "mark":
			r.mark = &api.Point{}
			r.points = append(r.points, r.mark)
		case "fill":
			*r.mark = api.Point{Kind: 2, Thread: r.thread, Op: r.number, Verdict: number(), Key: r.keyOf(take())}
		case "waits":
			waits = true
		default:
			panic("no word " + w)
		}
	}
	return reply, over, waits
}

// access expects an access.
func (r *run) access(kind, place int) {
	r.log = append(r.log, api.Access{Thread: r.thread, Kind: kind, Place: place})
}

// point expects a point.
func (r *run) point(kind, verdict, n int, name string) {
	r.points = append(r.points, &api.Point{Kind: kind, Thread: r.thread, Op: r.number, Key: r.keyOf(name), Verdict: verdict, N: n})
}

// wantGate fails the test unless the gate is this one.
func (b *bench) wantGate(version, count, clock int) {
	b.Helper()
	if got, want := b.s.Gate(), (api.Gate{Version: version, Count: count, Clock: clock}); got != want {
		b.Fatalf("gate %+v, want %+v", got, want)
	}
}

// wantKeys fails the test unless the flows are those of the pairs with these names.
func (b *bench) wantKeys(names ...string) {
	b.Helper()
	if got, want := b.s.Keys(), b.keys(names...); !slices.Equal(got, want) {
		b.Fatalf("keys %v, want %v", got, want)
	}
}

// wantStats fails the test unless the counters are these, from Accept on.
func (b *bench) wantStats(want ...uint64) {
	b.Helper()
	for i, n := range want {
		if got := b.s.Stat(i + 1); got != n {
			b.Fatalf("Stat(%d) = %d, want %d", i+1, got, n)
		}
	}
	for _, v := range append(edges(), -2, -1, 0, 6, 7, 8, 9, 10) {
		if got := b.s.Stat(v); got != 0 {
			b.Fatalf("Stat(%d) = %d", v, got)
		}
	}
	b.same("Stat")
}

// wantFlow fails the test unless a flow's word, which has this number, is of this flow.
func (b *bench) wantFlow(word, state, seq, until int) {
	b.Helper()
	want := uint64(state)<<60 | uint64(seq)<<40 | uint64(until)
	if got := b.s.memory.Look(word); got != want {
		b.Fatalf("word %d is %#x, want %#x", word, got, want)
	}
}

// set makes a word a value that the calls would take too long to reach. The accesses are those of thread 63.
func (b *bench) set(word int, value uint64) {
	b.Helper()
	if !b.s.memory.Swap(63, word, b.s.memory.Look(word), value) {
		b.Fatalf("word %d can't be set", word)
	}
	b.learn()
}

// tick, swap, flush, collect and stat return ops.
func tick(n int) api.Op            { return api.Op{Kind: isTick, N: n} }
func swap(s string) api.Op         { return api.Op{Kind: isSwap, S: s} }
func stat(v int) api.Op            { return api.Op{Kind: isStat, N: v} }
func flush() api.Op                { return api.Op{Kind: isFlush} }
func collect() api.Op              { return api.Op{Kind: isCollect} }
func verdict(v int) api.Reply      { return api.Reply{Verdict: v} }
func number(n int) api.Reply       { return api.Reply{N: n} }
func failed(e api.Errno) api.Reply { return api.Reply{E: e} }
