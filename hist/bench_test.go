package hist

import (
	"math"
	"slices"
	"strconv"
	"testing"

	"mantlet/api"
	"mantlet/key"
	"mantlet/pack"
)

// The kinds of ops, written out.
const (
	isPacket  = 1
	isTick    = 2
	isSwap    = 3
	isFlush   = 4
	isStat    = 5
	isCollect = 6
)

// The kinds of points, written out.
const (
	isCall   = 1
	isAct    = 2
	isCount  = 3
	isDelete = 4
	isTicked = 5
	isSwaped = 6
	isRead   = 7
	isReturn = 8
)

// The verdicts, written out.
const (
	accepted  = 1
	malformed = 2
	denied    = 3
	invalid   = 4
	isFull    = 5
)

// The flags of the segments that the tests send, written out.
const (
	opening = 2      // Syn
	answer  = 2 + 16 // Syn, Ack
	plain   = 16     // Ack
	ending  = 1 + 16 // Fin, Ack
	reset   = 4      // Rst
)

const (
	topClock   = 1<<40 - 1
	topVersion = 4095
)

// The texts of rules.
const (
	openText = "accept any any any any any\n"
	shutText = "drop any any any any any\n"
)

// edges returns the edges of int, and numbers that would be small if bits of them were lost.
func edges() []int {
	list := []int{math.MinInt, math.MinInt + 1, math.MinInt32, math.MaxInt32, math.MaxUint32, math.MaxInt - 1, math.MaxInt}
	for _, i := range []int{6, 7, 8, 16, 31, 32, 33, 62} {
		for v := range 3 {
			list = append(list, 1<<i+v, -1<<i+v)
		}
	}
	return list
}

// every returns a rule that matches each packet.
func every(accept bool) api.Rule {
	return api.Rule{Accept: accept, SPort: api.Span{High: 65535}, DPort: api.Span{High: 65535}}
}

// only returns a rule that matches each packet of a protocol.
func only(accept bool, proto uint8) api.Rule {
	r := every(accept)
	r.Proto = proto
	return r
}

// open returns rules that accept everything.
func open() []api.Rule { return []api.Rule{every(true)} }

// config returns a config whose timeouts are all 100.
func config(stripes, limit int) api.Config {
	c := api.Config{Stripes: stripes, Cap: limit}
	for i := range c.Times {
		c.Times[i] = 100
	}
	return c
}

// pair is the two ends of a flow, the first of which opens it.
type pair struct {
	proto uint8
	addr  [2]uint32
	port  [2]uint16
}

// somePair returns the pair with this number. If down, the higher end opens the flow.
func somePair(proto uint8, number int, down bool) pair {
	p := pair{proto, [2]uint32{5, 9 + uint32(number)}, [2]uint16{1025, 80}}
	if proto == api.ICMP {
		p.port[1] = p.port[0]
	}
	if down {
		p.addr[0], p.addr[1] = p.addr[1], p.addr[0]
	}
	return p
}

// packet returns what counts of a packet from the end with this index.
func (p pair) packet(from int, flags, kind uint8) api.Packet {
	to := 1 - from
	return api.Packet{Proto: p.proto, Src: p.addr[from], Dst: p.addr[to], SPort: p.port[from], DPort: p.port[to], Flags: flags, Kind: kind}
}

// key returns the key of the flow.
func (p pair) key() api.Key {
	k, _ := key.Of(p.packet(0, 0, 0))
	return k
}

// send returns the op of a packet.
func send(p api.Packet) api.Op {
	b, e := pack.Build(p, []byte{1, 2, 3})
	if e != api.OK {
		panic("no packet: " + strconv.Itoa(int(e)))
	}
	return api.Op{Kind: isPacket, B: b}
}

// sent returns the op of a packet from the end that opens the flow, and replied one from the other end. The flags are only for TCP.
func (p pair) sent(flags uint8) api.Op    { return p.op(0, flags) }
func (p pair) replied(flags uint8) api.Op { return p.op(1, flags) }

// op returns the op of a packet.
func (p pair) op(from int, flags uint8) api.Op {
	switch {
	case p.proto == api.TCP:
		return send(p.packet(from, flags, 0))
	case p.proto == api.ICMP && from == 0:
		return send(p.packet(from, 0, api.Echo))
	}
	return send(p.packet(from, 0, 0))
}

// tick, swap, flush, collect, stat, broken and unknown return ops.
func tick(n int) api.Op    { return api.Op{Kind: isTick, N: n} }
func swap(s string) api.Op { return api.Op{Kind: isSwap, S: s} }
func stat(v int) api.Op    { return api.Op{Kind: isStat, N: v} }
func flush() api.Op        { return api.Op{Kind: isFlush} }
func collect() api.Op      { return api.Op{Kind: isCollect} }
func broken() api.Op       { return api.Op{Kind: isPacket, B: []byte{1, 2, 3}} }
func unknown() api.Op      { return api.Op{Kind: 7, N: 1} }

// call, act, count, gone, ticked, swapped, read and back return points of an op of a thread.
func call(thread, op int) api.Point {
	return api.Point{Kind: isCall, Thread: thread, Op: op}
}

func act(thread, op int, k api.Key, verdict int) api.Point {
	return api.Point{Kind: isAct, Thread: thread, Op: op, Key: k, Verdict: verdict}
}

func count(thread, op, verdict int) api.Point {
	return api.Point{Kind: isCount, Thread: thread, Op: op, Verdict: verdict}
}

func gone(thread, op int, k api.Key, n int) api.Point {
	return api.Point{Kind: isDelete, Thread: thread, Op: op, Key: k, N: n}
}

func ticked(thread, op, n int) api.Point {
	return api.Point{Kind: isTicked, Thread: thread, Op: op, N: n}
}

func swapped(thread, op, version int) api.Point {
	return api.Point{Kind: isSwaped, Thread: thread, Op: op, N: version}
}

func read(thread, op, verdict, n int) api.Point {
	return api.Point{Kind: isRead, Thread: thread, Op: op, Verdict: verdict, N: n}
}

func back(thread, op, verdict, n int) api.Point {
	return api.Point{Kind: isReturn, Thread: thread, Op: op, Verdict: verdict, N: n}
}

// past is what Check is given: the points so far are valid.
type past struct {
	config  api.Config
	list    []api.Rule
	threads [][]api.Op
	points  []api.Point
}

// start returns a past without points, with a cap of 2 and rules that accept everything.
func start(threads ...[]api.Op) *past {
	return &past{config: config(2, 2), list: open(), threads: threads}
}

// valid reports whether p is valid as the next point.
func (x *past) valid(t *testing.T, p api.Point) bool {
	list := append(slices.Clip(x.points), p)
	n, e := Check(x.config, x.list, x.threads, list)
	if e == api.OK && n == len(list) {
		return true
	}
	if e != api.ErrOrder || n != len(x.points) {
		t.Fatalf("%d, %d for a point behind %d valid ones, %+v", n, e, len(x.points), p)
	}
	return false
}

// add appends these points, and fails the test unless they are valid.
func (x *past) add(t *testing.T, points ...api.Point) {
	t.Helper()
	for _, p := range points {
		if !x.valid(t, p) {
			t.Fatalf("not valid behind %d points: %+v", len(x.points), p)
		}
		x.points = append(x.points, p)
	}
}

// bad fails the test if one of these is valid as the next point.
func (x *past) bad(t *testing.T, points ...api.Point) {
	t.Helper()
	for _, p := range points {
		if x.valid(t, p) {
			t.Fatalf("valid behind %d points: %+v", len(x.points), p)
		}
	}
}

// addOnly appends these points: each one must be valid, and none that differs from it in one part.
func (x *past) addOnly(t *testing.T, points ...api.Point) {
	t.Helper()
	for _, p := range points {
		x.bad(t, altered(p)...)
		x.add(t, p)
	}
}

// altered returns points that differ from p in one part.
func altered(p api.Point) []api.Point {
	var list []api.Point
	with := func(change func(*api.Point)) {
		x := p
		change(&x)
		list = append(list, x)
	}
	for _, n := range append(edges(), -3, -2, -1, 1, 2, 3, 4, 5, 6, 7, 8) {
		with(func(x *api.Point) { x.Kind += n })
		with(func(x *api.Point) { x.Thread += n })
		with(func(x *api.Point) { x.Op += n })
		with(func(x *api.Point) { x.Verdict += n })
		with(func(x *api.Point) { x.N += n })
	}
	for i := range 2 {
		for _, n := range []uint32{1, 2, 1 << 8, 1 << 31, math.MaxUint32} {
			with(func(x *api.Point) { x.Key.Addr[i] += n })
			with(func(x *api.Point) { x.Key.Port[i] += uint16(n | n>>16) })
		}
	}
	for _, n := range []uint8{1, 2, 5, 6, 11, 16, 17, 128, 255} {
		with(func(x *api.Point) { x.Key.Proto += n })
	}
	return list
}

// wantNext fails the test unless exactly these points are valid as the next one, among them and those that likely are.
func (x *past) wantNext(t *testing.T, want ...api.Point) {
	t.Helper()
	x.wantAmong(t, x.likely(), want...)
}

// wantAmong fails the test unless exactly these points are valid as the next one, among them and the others.
func (x *past) wantAmong(t *testing.T, others []api.Point, want ...api.Point) {
	t.Helper()
	for _, p := range append(others, want...) {
		if ok := x.valid(t, p); ok != slices.Contains(want, p) {
			t.Fatalf("behind %d points: valid %v, %+v", len(x.points), ok, p)
		}
	}
}

// keys returns the keys of the packets, and the zero key.
func (x *past) keys() []api.Key {
	keys := []api.Key{{}}
	for _, ops := range x.threads {
		for _, o := range ops {
			if k := keyOf(o); !slices.Contains(keys, k) {
				keys = append(keys, k)
			}
		}
	}
	return keys
}

// likely returns points of all kinds and all ops, and of ops that do not exist, that have nothing but what their kind may have.
func (x *past) likely() []api.Point {
	var list []api.Point
	for thread := -1; thread <= len(x.threads); thread++ {
		ops := 0
		if thread >= 0 && thread < len(x.threads) {
			ops = len(x.threads[thread])
		}
		for op := range ops + 1 {
			list = append(list, likelyOf(thread, op, x.keys())...)
		}
	}
	return list
}

// likelyOf returns such points of one op.
func likelyOf(thread, op int, keys []api.Key) []api.Point {
	list := []api.Point{call(thread, op)}
	for _, k := range keys {
		list = append(list, gone(thread, op, k, 0), gone(thread, op, k, 1))
		for verdict := range 6 {
			list = append(list, act(thread, op, k, verdict))
		}
	}
	for n := range 4 {
		list = append(list, ticked(thread, op, n), swapped(thread, op, n), back(thread, op, 0, n))
	}
	for verdict := range 6 {
		list = append(list, count(thread, op, verdict), read(thread, op, verdict, 0), read(thread, op, verdict, 1), back(thread, op, verdict, 0))
	}
	return list
}

// nearby returns all points of an op that have one of the keys and otherwise small numbers.
func (x *past) nearby(thread, op int) []api.Point {
	var list []api.Point
	for kind := range 10 {
		for _, k := range x.keys() {
			for verdict := range 7 {
				for n := -1; n <= 3; n++ {
					list = append(list, api.Point{Kind: kind, Thread: thread, Op: op, Key: k, Verdict: verdict, N: n})
				}
			}
		}
	}
	return list
}
