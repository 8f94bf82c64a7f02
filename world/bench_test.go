package world

import (
	"math"
	"slices"
	"strconv"
	"strings"
	"testing"

	"mantlet/api"
	"mantlet/key"
	"mantlet/pack"
	"mantlet/prog"
)

// The kinds of ops, written out.
const (
	isPacket  = 1
	isTick    = 2
	isSwap    = 3
	isFlush   = 4
	isStat    = 5
	isCollect = 6
)

// The flags of the segments that the tests send, written out.
const (
	opening = 2      // Syn
	answer  = 2 + 16 // Syn, Ack
	plain   = 16     // Ack
	ending  = 1 + 16 // Fin, Ack
	reset   = 4      // Rst
)

// The texts of rules.
const (
	openText = "accept any any any any any\n"
	shutText = "drop any any any any any\n"
)

// edges returns the edges of int, and numbers that would be small if bits of them were lost.
func edges() []int {
	list := []int{math.MinInt, math.MinInt + 1, math.MinInt32, math.MaxInt32, math.MaxUint32, math.MaxInt - 1, math.MaxInt}
	for _, i := range []int{6, 7, 8, 16, 31, 32, 33, 62} {
		for v := range 3 {
			list = append(list, 1<<i+v, -1<<i+v)
		}
	}
	return list
}

// every returns a rule that matches each packet.
func every(accept bool) api.Rule {
	return api.Rule{Accept: accept, SPort: api.Span{High: 65535}, DPort: api.Span{High: 65535}}
}

// only returns a rule that matches each packet of a protocol.
func only(accept bool, proto uint8) api.Rule {
	r := every(accept)
	r.Proto = proto
	return r
}

// open returns rules that accept everything.
func open() []api.Rule { return []api.Rule{every(true)} }

// config returns a config whose timeouts are all 100.
func config(stripes, limit int) api.Config {
	c := api.Config{Stripes: stripes, Cap: limit}
	for i := range c.Times {
		c.Times[i] = 100
	}
	return c
}

// pair is the two ends of a flow, the first of which opens it.
type pair struct {
	proto uint8
	addr  [2]uint32
	port  [2]uint16
}

// packet returns what counts of a packet from the end with this index.
func (p pair) packet(from int, flags, kind uint8) api.Packet {
	to := 1 - from
	return api.Packet{Proto: p.proto, Src: p.addr[from], Dst: p.addr[to], SPort: p.port[from], DPort: p.port[to], Flags: flags, Kind: kind}
}

// key returns the key of the flow.
func (p pair) key() api.Key {
	k, _ := key.Of(p.packet(0, 0, 0))
	return k
}

// send returns the op of a packet.
func send(p api.Packet) api.Op {
	b, e := pack.Build(p, []byte{1, 2, 3})
	if e != api.OK {
		panic("no packet: " + strconv.Itoa(int(e)))
	}
	return api.Op{Kind: isPacket, B: b}
}

// sent returns the op of a packet from the end that opens the flow, and replied one from the other end. The flags are only for TCP.
func (p pair) sent(flags uint8) api.Op    { return p.op(0, flags) }
func (p pair) replied(flags uint8) api.Op { return p.op(1, flags) }

// op returns the op of a packet.
func (p pair) op(from int, flags uint8) api.Op {
	switch {
	case p.proto == api.TCP:
		return send(p.packet(from, flags, 0))
	case p.proto == api.ICMP && from == 0:
		return send(p.packet(from, 0, api.Echo))
	}
	return send(p.packet(from, 0, 0))
}

// somePair returns the pair with this number among those whose flows are in the stripe. If down, the higher end opens the flow.
func somePair(proto uint8, stripes, stripe, number int, down bool) pair {
	for i := 0; ; i++ {
		p := pair{proto, [2]uint32{5, 9 + uint32(i)}, [2]uint16{1025, 80}}
		if proto == api.ICMP {
			p.port[1] = p.port[0]
		}
		if down {
			p.addr[0], p.addr[1] = p.addr[1], p.addr[0]
		}
		if key.Stripe(p.key(), stripes) != stripe {
			continue
		}
		if number == 0 {
			return p
		}
		number--
	}
}

// tick, swap, flush, collect, stat, broken and unknown return ops.
func tick(n int) api.Op    { return api.Op{Kind: isTick, N: n} }
func swap(s string) api.Op { return api.Op{Kind: isSwap, S: s} }
func stat(v int) api.Op    { return api.Op{Kind: isStat, N: v} }
func flush() api.Op        { return api.Op{Kind: isFlush} }
func collect() api.Op      { return api.Op{Kind: isCollect} }
func broken() api.Op       { return api.Op{Kind: isPacket, B: []byte{1, 2, 3}} }
func unknown() api.Op      { return api.Op{Kind: 7, N: 1} }

// verdict, number and failed return replies.
func verdict(v int) api.Reply      { return api.Reply{Verdict: v} }
func number(n int) api.Reply       { return api.Reply{N: n} }
func failed(e api.Errno) api.Reply { return api.Reply{E: e} }

// someOps returns ops of every Kind, and of unknown ones. The flow is in stripe 1 of 2.
func someOps() []api.Op {
	p := somePair(api.TCP, 2, 1, 0, false)
	list := []api.Op{
		p.sent(opening), p.replied(answer), broken(), {Kind: isPacket}, tick(5), tick(0), tick(-5),
		swap(openText), swap("no rule"), swap(""), flush(), collect(), unknown(), {},
	}
	for v := -1; v <= 6; v++ {
		list = append(list, stat(v))
	}
	return append(list, api.Op{Kind: -1}, api.Op{Kind: math.MinInt}, api.Op{Kind: math.MaxInt})
}

// start returns a world.
func start(t *testing.T, c api.Config, list []api.Rule, threads ...[]api.Op) *World {
	t.Helper()
	w, e := New(c, list, threads)
	if w == nil || e != api.OK {
		t.Fatalf("New: %v, %d", w, e)
	}
	return w
}

// wantPicks fails the test unless each pick of these threads performs an act.
func wantPicks(t *testing.T, w *World, picks ...int) {
	t.Helper()
	for i, n := range picks {
		if !w.Pick(n) {
			t.Fatalf("pick %d, of thread %d: no act", i, n)
		}
	}
}

// wantThreads fails the test unless the threads are so: "over", "waits", or "ready" for the next act. A pick of one that is over or waits must do nothing.
func wantThreads(t *testing.T, w *World, want ...string) {
	t.Helper()
	if n := w.Threads(); n != len(want) {
		t.Fatalf("%d threads, want %d", n, len(want))
	}
	for i, s := range want {
		if over, waits := w.Over(i), w.Waits(i); over != (s == "over") || waits != (s == "waits") {
			t.Fatalf("thread %d: over %v, waits %v, want %s", i, over, waits, s)
		}
		if s != "ready" {
			wantIdle(t, w, i)
		}
	}
	over := slices.Index(want, "ready") < 0 && slices.Index(want, "waits") < 0
	if done := w.Done(); done != over {
		t.Fatalf("done: %v", done)
	}
	for _, i := range []int{-1, len(want), len(want) + 1} {
		if !w.Over(i) || w.Waits(i) || w.Replies(i) != nil {
			t.Fatalf("thread %d does not exist, but is not over, waits or has replies", i)
		}
		wantIdle(t, w, i)
	}
}

// wantIdle fails the test if a pick of the thread does anything.
func wantIdle(t *testing.T, w *World, thread int) {
	t.Helper()
	s := w.Shared()
	points, accesses, replies := s.Points(), s.Log(), w.Replies(thread)
	over, waits := w.Over(thread), w.Waits(thread)
	for range 2 {
		if w.Pick(thread) || w.Run([]int{thread, thread}) != 0 {
			t.Fatalf("a pick of thread %d performs an act", thread)
		}
		if !slices.Equal(s.Points(), points) || !slices.Equal(s.Log(), accesses) || !slices.Equal(w.Replies(thread), replies) {
			t.Fatalf("a pick of thread %d changes something", thread)
		}
		if w.Over(thread) != over || w.Waits(thread) != waits {
			t.Fatalf("a pick of thread %d changes whether it is over or waits", thread)
		}
	}
}

// wantReplies fails the test unless these are the replies of the thread.
func wantReplies(t *testing.T, w *World, thread int, want ...api.Reply) {
	t.Helper()
	if got := w.Replies(thread); !slices.Equal(got, want) {
		t.Fatalf("thread %d: replies %v, want %v", thread, got, want)
	}
}

// wantState fails the test unless the gate, the counters from Accept on, and the flows are these.
func wantState(t *testing.T, w *World, g api.Gate, counters [5]uint64, keys ...api.Key) {
	t.Helper()
	s := w.Shared()
	if got := s.Gate(); got != g {
		t.Fatalf("gate %v, want %v", got, g)
	}
	for i, n := range counters {
		if got := s.Stat(i + 1); got != n {
			t.Fatalf("counter %d is %d, want %d", i+1, got, n)
		}
	}
	if got := s.Keys(); !slices.Equal(got, keys) {
		t.Fatalf("keys %v, want %v", got, keys)
	}
}

// wantNothing fails the test unless no act has been performed.
func wantNothing(t *testing.T, w *World) {
	t.Helper()
	wantState(t, w, api.Gate{}, [5]uint64{})
	if s := w.Shared(); len(s.Points()) != 0 || len(s.Log()) != 0 {
		t.Fatalf("points %v, log %v", s.Points(), s.Log())
	}
	for i := range w.Threads() {
		wantReplies(t, w, i)
	}
}

// wantPoints fails the test unless the points are these, as told tells them.
func wantPoints(t *testing.T, w *World, want ...string) {
	t.Helper()
	var list []string
	for _, p := range w.Shared().Points() {
		list = append(list, told(p))
	}
	wantStrings(t, "points", list, want)
}

// told tells a point: thread and op, what it is, its verdict and its number. The key is only told by its addresses' last bytes.
func told(p api.Point) string {
	kinds := []string{"?", "call", "act", "count", "delete", "tick", "swap", "stat", "return"}
	list := []string{strconv.Itoa(p.Thread) + "." + strconv.Itoa(p.Op), kinds[p.Kind], strconv.Itoa(p.Verdict), strconv.Itoa(p.N)}
	if p.Key != (api.Key{}) {
		list = append(list, strconv.Itoa(int(p.Key.Addr[0]))+"-"+strconv.Itoa(int(p.Key.Addr[1])))
	}
	return strings.Join(list, " ")
}

// toldLog tells the accesses: the thread, the access, and the number of the mutex, word or plain location.
func toldLog(t *testing.T, w *World) []string {
	t.Helper()
	kinds := []string{"?", "lock", "unlock", "load", "store", "read", "write"}
	remainders := []int{0, 1, 1, 0, 0, 2, 2}
	var list []string
	for _, a := range w.Shared().Log() {
		n := a.Place - remainders[a.Kind]
		if n%3 != 0 {
			t.Fatalf("%v: not a place of this kind", a)
		}
		list = append(list, strconv.Itoa(a.Thread)+" "+kinds[a.Kind]+" "+strconv.Itoa(n/3))
	}
	return list
}

// wantLog fails the test unless the accesses are these, as toldLog tells them.
func wantLog(t *testing.T, w *World, want ...string) {
	t.Helper()
	wantStrings(t, "accesses", toldLog(t, w), want)
}

// wantPrefix fails the test unless the accesses begin with these.
func wantPrefix(t *testing.T, w *World, want ...string) {
	t.Helper()
	list := toldLog(t, w)
	wantStrings(t, "accesses", list[:min(len(want), len(list))], want)
}

// wantStrings fails the test unless the lists are the same.
func wantStrings(t *testing.T, what string, list, want []string) {
	t.Helper()
	if !slices.Equal(list, want) {
		t.Fatalf("%s\n%s\nwant\n%s", what, strings.Join(list, "\n"), strings.Join(want, "\n"))
	}
}

// answers is all that a world tells.
type answers struct {
	points   []api.Point
	accesses []api.Access
	gate     api.Gate
	counters [5]uint64
	keys     []api.Key
	replies  [][]api.Reply
	over     []bool
	waits    []bool
	done     bool
}

// ask returns all that the world tells, also of threads that do not exist.
func ask(w *World) answers {
	s := w.Shared()
	a := answers{points: s.Points(), accesses: s.Log(), gate: s.Gate(), keys: s.Keys(), done: w.Done()}
	for i := range a.counters {
		a.counters[i] = s.Stat(i + 1)
	}
	for i := -1; i <= w.Threads(); i++ {
		a.replies = append(a.replies, w.Replies(i))
		a.over = append(a.over, w.Over(i))
		a.waits = append(a.waits, w.Waits(i))
	}
	return a
}

// same reports whether two worlds tell the same.
func (a answers) same(b answers) bool {
	return slices.Equal(a.points, b.points) && slices.Equal(a.accesses, b.accesses) && a.gate == b.gate && a.counters == b.counters &&
		slices.Equal(a.keys, b.keys) && slices.EqualFunc(a.replies, b.replies, slices.Equal[[]api.Reply]) &&
		slices.Equal(a.over, b.over) && slices.Equal(a.waits, b.waits) && a.done == b.done
}

// outsider begins an op on the state of a world, by a thread that is not the world's.
func outsider(t *testing.T, w *World, x api.Op) *prog.Run {
	t.Helper()
	r := prog.Begin(w.Shared(), 1000, 0, x)
	if r == nil {
		t.Fatal("no op begins on the shared state")
	}
	return r
}

// finish picks all threads by turns until all are done.
func finish(t *testing.T, w *World) {
	t.Helper()
	for n := 0; !w.Done(); n++ {
		if n == 1000000 {
			t.Fatal("the threads do not end")
		}
		for i := range w.Threads() {
			w.Pick(i)
		}
	}
}
