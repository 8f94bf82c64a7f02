package fair

import (
	"math"
	"slices"
	"strconv"
	"strings"
	"testing"

	"mantlet/api"
	"mantlet/pack"
	"mantlet/prog"
	"mantlet/world"
)

// The texts of rules.
const (
	openText = "accept any any any any any\n"
	shutText = "drop any any any any any\n"
)

// edges returns the edges of int, and numbers that would be small if bits of them were lost.
func edges() []int {
	list := []int{math.MinInt, math.MinInt + 1, math.MinInt32, math.MaxInt32, math.MaxUint32, math.MaxInt - 1, math.MaxInt}
	for _, i := range []int{8, 12, 13, 16, 31, 32, 33, 62} {
		for v := range 3 {
			list = append(list, 1<<i+v, -1<<i+v)
		}
	}
	return list
}

// open returns rules that accept everything.
func open() []api.Rule {
	return []api.Rule{{Accept: true, SPort: api.Span{High: 65535}, DPort: api.Span{High: 65535}}}
}

// config returns a config whose timeouts are all 5.
func config(stripes, limit int) api.Config {
	c := api.Config{Stripes: stripes, Cap: limit}
	for i := range c.Times {
		c.Times[i] = 5
	}
	return c
}

// tick, swap, flush, collect, stat, broken and unknown return ops.
func tick(n int) api.Op    { return api.Op{Kind: api.OpTick, N: n} }
func swap(s string) api.Op { return api.Op{Kind: api.OpSwap, S: s} }
func stat(v int) api.Op    { return api.Op{Kind: api.OpStat, N: v} }
func flush() api.Op        { return api.Op{Kind: api.OpFlush} }
func collect() api.Op      { return api.Op{Kind: api.OpCollect} }
func broken() api.Op       { return api.Op{Kind: api.OpPacket, B: []byte{1, 2, 3}} }
func unknown() api.Op      { return api.Op{Kind: 7, N: 1} }

// send returns the op of a packet.
func send(p api.Packet) api.Op {
	b, e := pack.Build(p, nil)
	if e != api.OK {
		panic("no packet: " + strconv.Itoa(int(e)))
	}
	return api.Op{Kind: api.OpPacket, B: b}
}

// datagram returns the op of a UDP packet of the flow with this number. If back, it comes from the other end.
func datagram(flow int, back bool) api.Op {
	p := api.Packet{Proto: api.UDP, Src: 5, Dst: uint32(9 + flow), SPort: 1025, DPort: 53}
	if back {
		p.Src, p.Dst, p.SPort, p.DPort = p.Dst, p.Src, p.DPort, p.SPort
	}
	return send(p)
}

// segment returns the op of a TCP packet, with these flags, of the flow with this number. If back, it comes from the other end.
func segment(flow int, flags uint8, back bool) api.Op {
	p := api.Packet{Proto: api.TCP, Src: 5, Dst: uint32(9 + flow), SPort: 1025, DPort: 80, Flags: flags}
	if back {
		p.Src, p.Dst, p.SPort, p.DPort = p.Dst, p.Src, p.DPort, p.SPort
	}
	return send(p)
}

// start returns a world.
func start(t *testing.T, c api.Config, list []api.Rule, threads ...[]api.Op) *world.World {
	t.Helper()
	w, e := world.New(c, list, threads)
	if e != api.OK {
		t.Fatalf("New: %d", e)
	}
	return w
}

// wantFinish fails the test unless Finish returns these.
func wantFinish(t *testing.T, w *world.World, most, rounds int, done bool) {
	t.Helper()
	if n, ok := Finish(w, most); n != rounds || ok != done {
		t.Fatalf("Finish with %d = %d, %v, want %d, %v", most, n, ok, rounds, done)
	}
}

// wantLog fails the test unless the accesses are these: the thread, the access, and the number of the mutex, word or plain location.
func wantLog(t *testing.T, w *world.World, want ...string) {
	t.Helper()
	kinds := []string{"?", "lock", "unlock", "load", "store", "read", "write"}
	var list []string
	for _, a := range w.Shared().Log() {
		list = append(list, strconv.Itoa(a.Thread)+" "+kinds[a.Kind]+" "+strconv.Itoa(a.Place/3))
	}
	if !slices.Equal(list, want) {
		t.Fatalf("accesses\n%s\nwant\n%s", strings.Join(list, "\n"), strings.Join(want, "\n"))
	}
}

// wantSame fails the test unless both worlds tell the same.
func wantSame(t *testing.T, got, want *world.World) {
	t.Helper()
	s, o := got.Shared(), want.Shared()
	if !slices.Equal(s.Log(), o.Log()) || !slices.Equal(s.Points(), o.Points()) {
		t.Fatalf("%d accesses and %d points, want %d and %d", len(s.Log()), len(s.Points()), len(o.Log()), len(o.Points()))
	}
	if s.Gate() != o.Gate() || !slices.Equal(s.Keys(), o.Keys()) || got.Done() != want.Done() {
		t.Fatalf("gate %v, flows %v, done %v, want %v, %v, %v", s.Gate(), s.Keys(), got.Done(), o.Gate(), o.Keys(), want.Done())
	}
	for i := range want.Threads() {
		if !slices.Equal(got.Replies(i), want.Replies(i)) || got.Over(i) != want.Over(i) || got.Waits(i) != want.Waits(i) {
			t.Fatalf("thread %d: replies %v, want %v", i, got.Replies(i), want.Replies(i))
		}
	}
}

// slow is a second implementation of Finish, by the document's words; it performs at most 10^6 rounds.
func slow(t *testing.T, w *world.World, most int) (int, bool) {
	t.Helper()
	each := make([]int, w.Threads())
	for i := range each {
		each[i] = i
	}
	rounds := 0
	for !w.Done() && rounds < most {
		if rounds == 1000000 {
			t.Fatal("the rounds do not end")
		}
		w.Run(each)
		rounds++
	}
	return rounds, w.Done()
}

// outsider is the op of somebody else on the state of a world, which holds a mutex from its first act on.
func outsider(t *testing.T, w *world.World, x api.Op) *prog.Run {
	t.Helper()
	r := prog.Begin(w.Shared(), 1000, 0, x)
	if !r.Step() {
		t.Fatal("the outsider has no act")
	}
	return r
}
