package hist

import (
	"math"
	"slices"
	"testing"

	"mantlet/api"
)

// P23.1: a packet that is accepted: each of its points, and no other one.
func TestPacket(t *testing.T) {
	a := somePair(api.UDP, 0, false)
	x := start([]api.Op{a.sent(0), a.sent(0)})
	x.addOnly(t, call(0, 0))
	x.wantNext(t, act(0, 0, a.key(), accepted))
	x.addOnly(t, act(0, 0, a.key(), accepted))
	x.wantNext(t, count(0, 0, accepted))
	x.addOnly(t, count(0, 0, accepted))
	x.wantNext(t, back(0, 0, accepted, 0))
	x.addOnly(t, back(0, 0, accepted, 0))
	x.wantNext(t, call(0, 1))
}

// P23.1: a packet with each verdict: the rest of its points has this verdict, too.
func TestVerdicts(t *testing.T) {
	a, b, c := somePair(api.TCP, 0, false), somePair(api.UDP, 1, true), somePair(api.ICMP, 2, false)
	for _, y := range []struct {
		list    []api.Rule
		x       api.Op
		k       api.Key
		verdict int
	}{
		{open(), a.sent(opening), a.key(), accepted},
		{open(), b.sent(0), b.key(), isFull},
		{open(), c.sent(0), c.key(), isFull},
		{open(), broken(), api.Key{}, malformed},
		{open(), api.Op{Kind: isPacket}, api.Key{}, malformed},
		{open(), api.Op{Kind: isPacket, B: b.sent(0).B[:30]}, api.Key{}, malformed},
		{open(), a.sent(plain), a.key(), invalid},
		{open(), a.replied(answer), a.key(), accepted},
		{[]api.Rule{only(true, api.TCP)}, b.sent(0), b.key(), denied},
		{[]api.Rule{only(true, api.TCP)}, c.replied(0), c.key(), denied},
		{nil, broken(), api.Key{}, malformed},
	} {
		x := start([]api.Op{y.x}, []api.Op{a.sent(opening)})
		x.config.Cap = 1
		x.list = append([]api.Rule{only(true, api.TCP)}, y.list...)
		x.add(t, call(1, 0), act(1, 0, a.key(), accepted), count(1, 0, accepted), back(1, 0, accepted, 0))
		x.addOnly(t, call(0, 0))
		x.wantNext(t, act(0, 0, y.k, y.verdict))
		x.addOnly(t, act(0, 0, y.k, y.verdict))
		x.wantNext(t, count(0, 0, y.verdict))
		x.addOnly(t, count(0, 0, y.verdict))
		x.wantNext(t, back(0, 0, y.verdict, 0))
		x.addOnly(t, back(0, 0, y.verdict, 0))
		x.wantNext(t)
	}
}

// P23.1, PtAct: the verdict is that of the firewall then: by its flows, rules and clock, in the order of the points.
func TestActThen(t *testing.T) {
	a := somePair(api.TCP, 0, false)
	k := a.key()
	x := start([]api.Op{a.sent(opening)}, []api.Op{a.replied(answer), a.replied(answer)}, []api.Op{a.sent(plain)}, []api.Op{swap(shutText), flush()}, []api.Op{a.sent(opening)})
	x.add(t, call(0, 0), call(1, 0), call(2, 0), call(3, 0), call(4, 0))
	// Nobody has opened the flow yet.
	x.wantNext(t, act(0, 0, k, accepted), act(4, 0, k, accepted), act(1, 0, k, invalid), act(2, 0, k, invalid), swapped(3, 0, 1))
	x.add(t, act(0, 0, k, accepted))
	x.wantNext(t, count(0, 0, accepted), act(1, 0, k, accepted), act(2, 0, k, invalid), swapped(3, 0, 1), act(4, 0, k, accepted))
	x.add(t, act(1, 0, k, accepted), swapped(3, 0, 1))
	// The flow goes on, whatever the rules are now.
	x.wantNext(t, count(0, 0, accepted), count(1, 0, accepted), act(2, 0, k, accepted), back(3, 0, 0, 1), act(4, 0, k, accepted))
	x.add(t, act(2, 0, k, accepted), back(3, 0, 0, 1), call(3, 1))
	x.wantNext(t, count(0, 0, accepted), count(1, 0, accepted), count(2, 0, accepted), gone(3, 1, k, 1), back(3, 1, 0, 0), act(4, 0, k, invalid))
	x.add(t, gone(3, 1, k, 1))
	// It is not there any more, and no rule accepts it.
	x.wantNext(t, count(0, 0, accepted), count(1, 0, accepted), count(2, 0, accepted), back(3, 1, 0, 1), act(4, 0, k, denied))
	x.add(t, act(4, 0, k, denied), count(4, 0, denied), back(4, 0, denied, 0))
}

// P23.1, PtAct: the flow of another packet is another flow.
func TestActOfTwoFlows(t *testing.T) {
	a, b, c := somePair(api.UDP, 0, false), somePair(api.UDP, 1, false), somePair(api.UDP, 2, true)
	x := start([]api.Op{a.sent(0)}, []api.Op{b.sent(0)}, []api.Op{c.sent(0)})
	x.add(t, call(0, 0), call(1, 0), call(2, 0))
	x.wantNext(t, act(0, 0, a.key(), accepted), act(1, 0, b.key(), accepted), act(2, 0, c.key(), accepted))
	x.add(t, act(1, 0, b.key(), accepted))
	x.wantNext(t, act(0, 0, a.key(), accepted), count(1, 0, accepted), act(2, 0, c.key(), accepted))
	x.add(t, act(2, 0, c.key(), accepted))
	x.wantNext(t, act(0, 0, a.key(), isFull), count(1, 0, accepted), count(2, 0, accepted))
}

// P23.1, PtAct and PtDelete of a packet: a flow that is over has to be deleted first, by the packet or by somebody else.
func TestActBehindDelete(t *testing.T) {
	a, b := somePair(api.UDP, 0, true), somePair(api.UDP, 1, false)
	k := a.key()
	begun := func(clock int) *past {
		x := start([]api.Op{a.sent(0), a.sent(0), collect()}, []api.Op{tick(clock), collect(), flush()}, []api.Op{b.sent(0)}, []api.Op{broken()})
		x.add(t, call(0, 0), act(0, 0, k, accepted), count(0, 0, accepted), back(0, 0, accepted, 0), call(0, 1))
		x.add(t, call(2, 0), call(3, 0))
		x.wantNext(t, act(0, 1, k, accepted), call(1, 0), act(2, 0, b.key(), accepted), act(3, 0, api.Key{}, malformed))
		x.add(t, call(1, 0), ticked(1, 0, clock))
		return x
	}
	// One tick earlier it is not over.
	x := begun(99)
	x.wantNext(t, act(0, 1, k, accepted), back(1, 0, 0, 99), act(2, 0, b.key(), accepted), act(3, 0, api.Key{}, malformed))

	x = begun(100)
	x.wantNext(t, gone(0, 1, k, 0), back(1, 0, 0, 100), act(2, 0, b.key(), accepted), act(3, 0, api.Key{}, malformed))
	x.addOnly(t, gone(0, 1, k, 0))
	x.wantNext(t, act(0, 1, k, accepted), back(1, 0, 0, 100), act(2, 0, b.key(), accepted), act(3, 0, api.Key{}, malformed))
	x.addOnly(t, act(0, 1, k, accepted))
	x.wantNext(t, count(0, 1, accepted), back(1, 0, 0, 100), act(2, 0, b.key(), accepted), act(3, 0, api.Key{}, malformed))
	// The deletion is not counted by a packet.
	x.add(t, count(0, 1, accepted))
	x.wantNext(t, back(0, 1, accepted, 0), back(1, 0, 0, 100), act(2, 0, b.key(), accepted), act(3, 0, api.Key{}, malformed))

	// Somebody else deletes it.
	for _, n := range []int{0, 1} {
		x = begun(math.MaxInt)
		x.add(t, back(1, 0, 0, topClock), call(1, 1))
		if n == 1 {
			x.add(t, back(1, 1, 0, 0), call(1, 2))
		}
		x.wantNext(t, gone(0, 1, k, 0), gone(1, 1+n, k, n), back(1, 1+n, 0, 0), act(2, 0, b.key(), accepted), act(3, 0, api.Key{}, malformed))
		x.add(t, gone(1, 1+n, k, n))
		x.wantNext(t, act(0, 1, k, accepted), back(1, 1+n, 0, 1), act(2, 0, b.key(), accepted), act(3, 0, api.Key{}, malformed))
	}
}

// P23.1, PtDelete: a packet may delete its flow again if the flow has come back and is over again.
func TestDeleteAgain(t *testing.T) {
	a := somePair(api.UDP, 0, false)
	k := a.key()
	whole := func(thread, op int) []api.Point {
		return []api.Point{call(thread, op), act(thread, op, k, accepted), count(thread, op, accepted), back(thread, op, accepted, 0)}
	}
	x := start([]api.Op{a.sent(0)}, []api.Op{a.sent(0), tick(100), a.replied(0), a.sent(0), tick(100)})
	x.add(t, call(0, 0))
	x.add(t, whole(1, 0)...)
	x.add(t, call(1, 1), ticked(1, 1, 100), back(1, 1, 0, 100), gone(0, 0, k, 0))
	x.bad(t, gone(0, 0, k, 0))
	x.add(t, whole(1, 2)...)
	x.bad(t, gone(0, 0, k, 0))
	x.add(t, whole(1, 3)...)
	x.add(t, call(1, 4), ticked(1, 4, 100))
	x.wantNext(t, gone(0, 0, k, 0), back(1, 4, 0, 200))
	x.add(t, gone(0, 0, k, 0))
	x.wantNext(t, act(0, 0, k, accepted), back(1, 4, 0, 200))
	x.add(t, act(0, 0, k, accepted), count(0, 0, accepted))
	x.wantNext(t, back(0, 0, accepted, 0), back(1, 4, 0, 200))
}

// P23.1, PtDelete: not by a packet that is judged or malformed, nor by another flow's, nor of a flow that is not there or not over.
func TestDeleteNot(t *testing.T) {
	a, b := somePair(api.UDP, 0, false), somePair(api.TCP, 0, false)
	x := start([]api.Op{a.sent(0)}, []api.Op{a.sent(0)}, []api.Op{b.sent(opening)}, []api.Op{{Kind: isPacket}}, []api.Op{tick(100), swap(openText), stat(1), unknown()})
	x.add(t, call(0, 0), call(1, 0), call(2, 0), call(3, 0), call(4, 0))
	deletes := func(wanted ...api.Point) {
		t.Helper()
		for thread, ops := range x.threads {
			for op := range ops {
				for _, k := range []api.Key{a.key(), b.key(), {}} {
					for n := -1; n <= 2; n++ {
						if p := gone(thread, op, k, n); x.valid(t, p) != slices.Contains(wanted, p) {
							t.Fatalf("behind %d points: valid %v, %+v", len(x.points), x.valid(t, p), p)
						}
					}
				}
			}
		}
	}
	deletes()
	x.add(t, act(0, 0, a.key(), accepted))
	deletes()
	x.add(t, ticked(4, 0, 100))
	deletes(gone(1, 0, a.key(), 0))
	x.add(t, back(4, 0, 0, 100), call(4, 1))
	deletes(gone(1, 0, a.key(), 0))
	x.add(t, swapped(4, 1, 1), back(4, 1, 0, 1), call(4, 2))
	deletes(gone(1, 0, a.key(), 0))
	x.add(t, read(4, 2, 1, 0), back(4, 2, 0, 0), call(4, 3))
	deletes(gone(1, 0, a.key(), 0))
	x.add(t, gone(1, 0, a.key(), 0))
	deletes()
}

// P23.1, PtDelete of a collect: flows that are over, with N 0; of a flush: any flows, with N 1. The return has their number.
func TestSweeps(t *testing.T) {
	a, b := somePair(api.UDP, 0, false), somePair(api.TCP, 0, true)
	begun := func() *past {
		x := start([]api.Op{a.sent(0), tick(60), b.sent(opening), collect(), flush()}, []api.Op{collect()}, []api.Op{flush()}, []api.Op{tick(40), tick(60)})
		x.add(t, call(0, 0), act(0, 0, a.key(), accepted), count(0, 0, accepted), back(0, 0, accepted, 0))
		x.add(t, call(0, 1), ticked(0, 1, 60), back(0, 1, 0, 60))
		x.add(t, call(0, 2), act(0, 2, b.key(), accepted), count(0, 2, accepted), back(0, 2, accepted, 0))
		x.add(t, call(1, 0), call(2, 0))
		return x
	}
	// Neither is over.
	x := begun()
	flushed := []api.Point{gone(2, 0, a.key(), 1), gone(2, 0, b.key(), 1), call(0, 3), back(1, 0, 0, 0), back(2, 0, 0, 0), call(3, 0)}
	x.wantNext(t, flushed...)
	// The first one is.
	x.add(t, call(3, 0), ticked(3, 0, 40), back(3, 0, 0, 100))
	flushed[len(flushed)-1] = call(3, 1)
	x.wantNext(t, append(flushed, gone(1, 0, a.key(), 0))...)
	// The flush removes the other one, and the collect this one.
	x.addOnly(t, gone(2, 0, b.key(), 1))
	x.wantNext(t, gone(2, 0, a.key(), 1), gone(1, 0, a.key(), 0), call(0, 3), back(1, 0, 0, 0), back(2, 0, 0, 1), call(3, 1))
	x.addOnly(t, gone(1, 0, a.key(), 0))
	x.wantNext(t, call(0, 3), back(1, 0, 0, 1), back(2, 0, 0, 1), call(3, 1))
	x.add(t, back(1, 0, 0, 1), back(2, 0, 0, 1))
	// The next ones count anew.
	x.add(t, call(0, 3))
	x.wantNext(t, back(0, 3, 0, 0), call(3, 1))
	x.add(t, back(0, 3, 0, 0), call(0, 4))
	x.wantNext(t, back(0, 4, 0, 0), call(3, 1))

	// Both are over, and are removed in any order.
	for i, first := range []api.Key{a.key(), b.key()} {
		second := []api.Key{b.key(), a.key()}[i]
		for n := range 2 {
			x = begun()
			x.add(t, call(3, 0), ticked(3, 0, 40), back(3, 0, 0, 100), call(3, 1), ticked(3, 1, 60), back(3, 1, 0, 160))
			x.add(t, gone(1+n, 0, first, n))
			x.bad(t, gone(1+n, 0, first, n), gone(2-n, 0, first, 1-n))
			x.wantNext(t, gone(1, 0, second, 0), gone(2, 0, second, 1), call(0, 3), back(1+n, 0, 0, 1), back(2-n, 0, 0, 0))
			x.add(t, gone(1+n, 0, second, n))
			x.wantNext(t, call(0, 3), back(1+n, 0, 0, 2), back(2-n, 0, 0, 0))
		}
	}
}

// P23.1, PtDelete: the same flow may be removed by one op as often as it comes.
func TestSweepSameAgain(t *testing.T) {
	a := somePair(api.UDP, 0, false)
	k := a.key()
	for _, x := range []struct {
		op    api.Op
		n     int
		clock int
	}{{collect(), 0, 100}, {flush(), 1, 0}} {
		ops := slices.Repeat([]api.Op{a.sent(0), tick(x.clock)}, 5)
		h := start([]api.Op{x.op}, ops)
		h.add(t, call(0, 0))
		for i := range 5 {
			h.bad(t, gone(0, 0, k, x.n))
			h.add(t, call(1, 2*i), act(1, 2*i, k, accepted), count(1, 2*i, accepted), back(1, 2*i, accepted, 0))
			h.add(t, call(1, 2*i+1), ticked(1, 2*i+1, x.clock), back(1, 2*i+1, 0, (i+1)*x.clock))
			h.add(t, gone(0, 0, k, x.n))
			for n := range 10 {
				if h.valid(t, back(0, 0, 0, n)) != (n == i+1) {
					t.Fatalf("a return with %d behind %d flows", n, i+1)
				}
			}
		}
		h.addOnly(t, back(0, 0, 0, 5))
	}
}

// P23.1, PtTick: N is that of the op, also a negative one; the return has the clock behind the PtTick, not that of the return.
func TestTicks(t *testing.T) {
	for _, n := range append(edges(), 0, 1, -1, 5, topClock-1, topClock, topClock+1) {
		clock := min(max(n, 0), topClock)
		x := start([]api.Op{tick(n), tick(n)}, []api.Op{tick(3)})
		x.add(t, call(0, 0))
		x.addOnly(t, ticked(0, 0, n), back(0, 0, 0, clock))
		x.add(t, call(0, 1), call(1, 0))
		next := min(clock+3, topClock)
		last := min(next+max(n, 0), topClock)
		if n > topClock {
			last = topClock // the sum does not fit into an int
		}
		x.add(t, ticked(1, 0, 3))
		x.addOnly(t, ticked(0, 1, n))
		if next != last {
			x.bad(t, back(1, 0, 0, last), back(0, 1, 0, next))
		}
		x.add(t, back(0, 1, 0, last), back(1, 0, 0, next))
	}
}

// P23.1, PtTick: once, only for a tick, and not missing at the return.
func TestTickOnce(t *testing.T) {
	x := start([]api.Op{tick(2), {Kind: isTick}}, []api.Op{{Kind: isSwap, N: 2}}, []api.Op{{Kind: isFlush, N: 2}})
	x.add(t, call(0, 0), call(1, 0), call(2, 0))
	x.wantNext(t, ticked(0, 0, 2), swapped(1, 0, 1), back(2, 0, 0, 0))
	x.add(t, ticked(0, 0, 2))
	x.wantNext(t, back(0, 0, 0, 2), swapped(1, 0, 1), back(2, 0, 0, 0))
	x.add(t, back(0, 0, 0, 2), call(0, 1))
	x.wantNext(t, ticked(0, 1, 0), swapped(1, 0, 1), back(2, 0, 0, 0))
	x.add(t, ticked(0, 1, 0))
	x.wantNext(t, back(0, 1, 0, 2), swapped(1, 0, 1), back(2, 0, 0, 0))
}

// P23.1, PtSwap: N is the new version; without it, only a swap returns whose rules do not compile.
func TestSwaps(t *testing.T) {
	a := somePair(api.UDP, 0, false)
	x := start([]api.Op{swap(shutText), swap("what?"), swap("")}, []api.Op{swap(openText)}, []api.Op{a.sent(0), a.sent(0)})
	x.add(t, call(0, 0), call(1, 0), call(2, 0))
	x.wantNext(t, swapped(0, 0, 1), swapped(1, 0, 1), act(2, 0, a.key(), accepted))
	x.add(t, swapped(0, 0, 1))
	x.wantNext(t, back(0, 0, 0, 1), swapped(1, 0, 2), act(2, 0, a.key(), denied))
	x.addOnly(t, swapped(1, 0, 2))
	// Each one returns its own version.
	x.wantNext(t, back(0, 0, 0, 1), back(1, 0, 0, 2), act(2, 0, a.key(), accepted))
	x.addOnly(t, back(0, 0, 0, 1))
	x.add(t, call(0, 1))
	x.wantNext(t, back(0, 1, 0, 0), back(1, 0, 0, 2), act(2, 0, a.key(), accepted))
	x.addOnly(t, back(0, 1, 0, 0))
	x.add(t, call(0, 2))
	// The empty text are no rules.
	x.wantNext(t, swapped(0, 2, 3), back(1, 0, 0, 2), act(2, 0, a.key(), accepted))
	x.add(t, swapped(0, 2, 3))
	x.wantNext(t, back(0, 2, 0, 3), back(1, 0, 0, 2), act(2, 0, a.key(), denied))
}

// P23.1, PtSwap: what Compile does not accept, and what it just accepts.
func TestSwapCompiles(t *testing.T) {
	line := "drop tcp any 1-2 10.0.0.0/8 any\n"
	many := ""
	for range 64 {
		many += line
	}
	for s, ok := range map[string]bool{
		line: true, "": true, "\n# nothing\n": true, many: true, many + "\n": true, line + line[:len(line)-1]: true,
		many + line: false, "x": false, line + "drop": false, "drop tcp any 2-1 any any": false, "\x80": false, line + "\x00": false,
	} {
		x := start([]api.Op{swap(s)})
		x.add(t, call(0, 0))
		if !ok {
			x.wantNext(t, back(0, 0, 0, 0))
			x.addOnly(t, back(0, 0, 0, 0))
			continue
		}
		x.wantNext(t, swapped(0, 0, 1))
		x.addOnly(t, swapped(0, 0, 1), back(0, 0, 0, 1))
	}
}

// P23.1, PtSwap and PtReturn at the greatest version: no swap any more, and a swap returns without one.
func TestGreatestVersion(t *testing.T) {
	many := slices.Repeat([]api.Op{swap("")}, 256)
	threads := slices.Repeat([][]api.Op{many}, 16)
	threads = append(threads, []api.Op{swap(""), swap("")}, []api.Op{swap("")}, []api.Op{swap("?")}, []api.Op{swap("")})
	x := &past{config: config(1, 1), list: open(), threads: threads}
	for i := range topVersion - 1 {
		thread, op, version := i%16, i/16, i+1
		x.points = append(x.points, call(thread, op), swapped(thread, op, version), back(thread, op, 0, version))
	}
	x.points = append(x.points, call(16, 0), call(17, 0), call(18, 0), call(19, 0))
	if n, e := Check(x.config, nil, threads, x.points); n != len(x.points) || e != api.OK {
		t.Fatal(n, e)
	}
	// At version 4094 there is one more.
	x.add(t, swapped(16, 0, topVersion))
	for _, thread := range []int{16, 17, 19} {
		x.points = x.points[:len(x.points)-1]
		for n := topVersion - 2; n <= topVersion+2; n++ {
			if x.valid(t, swapped(thread, 0, n)) != (n == topVersion) || x.valid(t, back(thread, 0, 0, n)) {
				t.Fatal(thread, n)
			}
		}
		x.bad(t, back(thread, 0, 0, 0), swapped(thread, 0, 0), back(thread, 0, 0, topVersion))
		x.add(t, swapped(16, 0, topVersion))
	}
	next := []api.Point{back(16, 0, 0, topVersion), back(17, 0, 0, 0), back(18, 0, 0, 0), back(19, 0, 0, 0), call(15, 255)}
	for thread := 15; thread <= 20; thread++ {
		for op := range 2 {
			for _, n := range []int{-1, 0, 1, topVersion - 1, topVersion, topVersion + 1} {
				for _, p := range []api.Point{swapped(thread, op, n), back(thread, op, 0, n), call(thread, op)} {
					if x.valid(t, p) != slices.Contains(next, p) {
						t.Fatal(p)
					}
				}
			}
		}
	}
	for _, p := range next {
		x.add(t, p)
	}
	x.bad(t, swapped(15, 255, topVersion), swapped(15, 255, topVersion+1), swapped(15, 255, 0), back(15, 255, 0, topVersion))
	x.add(t, back(15, 255, 0, 0), call(16, 1))
	x.bad(t, back(16, 1, 0, topVersion), back(16, 1, 0, 1), back(16, 1, 1, 0))
	x.add(t, back(16, 1, 0, 0))
}

// P23.1, PtStat: its N is the counter then; without it, only a stat returns that asks for no verdict.
func TestStats(t *testing.T) {
	a, b := somePair(api.UDP, 0, false), somePair(api.UDP, 1, false)
	threads := [][]api.Op{{a.sent(0), a.sent(0)}, {b.sent(0)}, {broken(), broken()}}
	for v := range 5 {
		threads = append(threads, []api.Op{stat(v + 1)})
	}
	x := start(threads...)
	x.config.Cap = 1
	for i := range threads {
		x.add(t, call(i, 0))
	}
	stats := func(want ...int) {
		t.Helper()
		for v, n := range want {
			for i := range 5 {
				for other := range 7 {
					if x.valid(t, read(v+3, 0, other, i)) != (i == n && other == v+1) {
						t.Fatalf("stat %d, as %d: %d", v+1, other, i)
					}
				}
			}
			x.bad(t, back(v+3, 0, 0, 0), back(v+3, 0, 0, n), count(v+3, 0, v+1), count(v+3, 0, 0))
		}
	}
	stats(0, 0, 0, 0, 0)
	// A packet is counted by its PtCount only.
	x.add(t, act(0, 0, a.key(), accepted), act(1, 0, b.key(), isFull), act(2, 0, api.Key{}, malformed))
	stats(0, 0, 0, 0, 0)
	x.add(t, count(1, 0, isFull))
	stats(0, 0, 0, 0, 1)
	x.add(t, count(0, 0, accepted), count(2, 0, malformed), back(2, 0, malformed, 0), back(0, 0, accepted, 0))
	stats(1, 1, 0, 0, 1)
	x.add(t, call(0, 1), act(0, 1, a.key(), accepted), call(2, 1), act(2, 1, api.Key{}, malformed), count(0, 1, accepted))
	stats(2, 1, 0, 0, 1)
	x.addOnly(t, read(4, 0, 2, 1))
	x.add(t, count(2, 1, malformed))
	// It returns what was counted then.
	x.bad(t, read(4, 0, 2, 1), read(4, 0, 2, 2), back(4, 0, 0, 2), back(4, 0, 2, 1))
	x.addOnly(t, back(4, 0, 0, 1))
	x.addOnly(t, read(3, 0, 1, 2), back(3, 0, 0, 2), read(7, 0, 5, 1), back(7, 0, 0, 1), read(6, 0, 4, 0), back(6, 0, 0, 0))
}

// P23.1: a stat that asks for no verdict has no PtStat.
func TestStatOfNone(t *testing.T) {
	for _, v := range append(edges(), -1, 0, 6, 7, 15) {
		x := start([]api.Op{stat(v)}, nil)
		x.addOnly(t, call(0, 0))
		x.bad(t, read(0, 0, v, 0), read(0, 0, 0, 0), read(0, 0, 1, 0), read(0, 0, v, v), back(0, 0, v, 1), back(0, 0, 0, 1))
		x.addOnly(t, back(0, 0, 0, 0))
	}
	x := start([]api.Op{stat(0)})
	x.add(t, call(0, 0))
	x.wantNext(t, back(0, 0, 0, 0))
}

// P23.1: each op of each kind, when it has just been called: exactly these points are valid.
func TestBehindCall(t *testing.T) {
	a := somePair(api.UDP, 0, false)
	for _, y := range []struct {
		x    api.Op
		want []api.Point
	}{
		{a.sent(0), []api.Point{act(0, 0, a.key(), accepted)}},
		{broken(), []api.Point{act(0, 0, api.Key{}, malformed)}},
		{tick(1), []api.Point{ticked(0, 0, 1)}},
		{tick(-1), []api.Point{ticked(0, 0, -1)}},
		{swap(""), []api.Point{swapped(0, 0, 1)}},
		{swap("?"), []api.Point{back(0, 0, 0, 0)}},
		{flush(), []api.Point{back(0, 0, 0, 0)}},
		{collect(), []api.Point{back(0, 0, 0, 0)}},
		{stat(1), []api.Point{read(0, 0, 1, 0)}},
		{stat(5), []api.Point{read(0, 0, 5, 0)}},
		{stat(6), []api.Point{back(0, 0, 0, 0)}},
		{unknown(), []api.Point{back(0, 0, 0, 0)}},
	} {
		x := start([]api.Op{y.x, a.sent(0)})
		x.wantNext(t, call(0, 0))
		x.wantAmong(t, append(x.nearby(0, 0), x.nearby(0, 1)...), call(0, 0))
		x.addOnly(t, call(0, 0))
		x.wantNext(t, y.want...)
		x.wantAmong(t, append(x.nearby(0, 0), x.nearby(0, 1)...), y.want...)
		x.addOnly(t, y.want...)
	}
}
