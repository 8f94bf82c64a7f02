package prog

import (
	"math"
	"strings"
	"testing"

	"mantlet/api"
)

// P21.1, P21.2: ticks of all sizes; the point has the op's N, the reply the clock.
func TestTick(t *testing.T) {
	b := newBench(t)
	b.whole(0, 0, b.pairs["a"].sent(opening), verdict(accepted))
	b.whole(0, 1, swap(shutText), number(1))
	for i, x := range []struct {
		n, clock int
		line     string
	}{
		{5, 5, "tick 5 return 0 5"},
		{0, 5, "tick 0 return 0 5"},
		{1, 6, "tick 1 return 0 6"},
		{-1, 6, "tick -1 return 0 6"},
		{math.MinInt, 6, "tick -9223372036854775808 return 0 6"},
		{1 << 32, 4294967302, "tick 4294967296 return 0 4294967302"},
		{topClock - 4294967303, topClock - 1, "tick 1095216660472 return 0 1099511627774"},
		{0, topClock - 1, "tick 0 return 0 1099511627774"},
		{2, topClock, "tick 2 return 0 1099511627775"},
		{1, topClock, "tick 1 return 0 1099511627775"},
		{math.MaxInt, topClock, "tick 9223372036854775807 return 0 1099511627775"},
		{-7, topClock, "tick -7 return 0 1099511627775"},
	} {
		r := b.begin(i, 2*i, tick(x.n))
		before := b.s.Gate()
		r.does("load 0 call")
		b.wantGate(1, 1, before.Clock)
		r.does("store 0 " + x.line)
		b.wantGate(1, 1, x.clock)
	}
	b.wantKeys("a")
	b.wantStats(1, 0, 0, 0, 0)
}

// P21.1: a tick needs no mutex.
func TestTickDoesNotWait(t *testing.T) {
	b := newBench(t)
	for n := range 3 {
		b.s.memory.Lock(1, n)
	}
	b.learn()
	b.begin(1, 0, tick(1)).does("load 0 call", "store 0 tick 1 return 0 1")
	b.begin(2, 0, stat(1)).does("load 1 call stat 1 0 return 0 0")
	b.begin(1, 1, swap("?")).expectOnly(api.ErrText)
	b.begin(1, 1, api.Op{Kind: 9}).expectOnly(api.ErrArg)
}

// expectOnly fails the test unless the op's only act, without any access, returns the error.
func (r *run) expectOnly(e api.Errno) {
	r.Helper()
	r.error = e
	r.does("call return 0 0")
}

// P21.1, P21.2: a swap of rules, which hold from the Swap of the gate on.
func TestSwap(t *testing.T) {
	b := benchOf(t, 4, 5, nil)
	b.whole(0, 0, tick(8), number(8))
	r := b.begin(6, 2, swap("# only this:\naccept tcp any any any any"))
	r.does("lock 4 call", "load 0 write 5")
	b.wantGate(0, 0, 8)
	// Nobody reads the next version's rules yet.
	b.whole(1, 0, b.pairs["a"].sent(opening), verdict(denied))
	r.does("store 0 swap 1")
	b.wantGate(1, 0, 8)
	b.whole(1, 1, b.pairs["a"].sent(opening), verdict(accepted))
	b.whole(1, 2, somePair(api.UDP, 4, 0, 0, false).sent(0), verdict(denied))
	r.does("unlock 4 return 0 1")
	b.begin(1, 3, swap("")).does("lock 4 call", "load 0 write 6", "store 0 swap 2", "unlock 4 return 0 2")
	b.wantGate(2, 1, 8)
	b.whole(1, 4, b.pairs["b"].sent(opening), verdict(denied))
	// A flow that is there is not judged by rules.
	b.whole(1, 5, b.pairs["a"].replied(answer), verdict(accepted))
	b.begin(1, 6, swap(openText)).does("lock 4 call", "load 0 write 7", "store 0 swap 3", "unlock 4 return 0 3")
	b.begin(1, 7, b.pairs["b"].sent(opening)).does("lock 0 read 0 call", "load 0 read 7", "store 0 write 0 act 1 b", "unlock 0", "load 1", "store 1 count 1 return 1 0")
	b.wantGate(3, 2, 8)
	b.wantKeys("a", "b")
}

// P21.1, P21.2: rules that do not compile, with each error of Compile.
func TestSwapErrors(t *testing.T) {
	b := newBench(t)
	for i, x := range []struct {
		text string
		e    api.Errno
	}{
		{"x", api.ErrText}, {openText + "pass", api.ErrText}, {"accept any any any any\n", api.ErrText}, {"\x00", api.ErrText},
		{strings.Repeat("\n", 4097), api.ErrOver}, {strings.Repeat("?", 5000), api.ErrOver},
		{strings.Repeat(shutText, 65), api.ErrMany},
	} {
		r := b.begin(i, i, swap(x.text))
		b.s.memory.Lock(9, 2)
		b.learn()
		r.expectOnly(x.e)
		b.s.memory.Unlock(9, 2)
		b.learn()
		b.wantGate(0, 0, 0)
	}
	b.whole(0, 0, swap(strings.Repeat(shutText, 64)), number(1))
	b.whole(0, 0, swap(strings.Repeat("\n", 4096)), number(2))
}

// P21.1, P21.2: no version follows 4095; until then each version's rules have a location of their own.
func TestSwapEnds(t *testing.T) {
	b := newBench(t)
	for v := 1; v <= topVersion; v++ {
		r := Begin(b.s, 1, v, swap([]string{openText, shutText}[v%2]))
		for r.Step() {
		}
		if y, ok := r.Done(); y != number(v) || !ok {
			t.Fatalf("version %d: %v, %v", v, y, ok)
		}
	}
	b.learn()
	if len(b.s.rules) != 1 {
		t.Errorf("the rules of %d versions are kept", len(b.s.rules))
	}
	for v := 1; v <= topVersion; v++ {
		// Each swap has a lock, a Load, a Write, a Store and an unlock.
		if a := b.log[5*v-3]; a != (api.Access{Thread: 1, Kind: 6, Place: 3*(2+v) + 2}) {
			t.Fatalf("version %d: access %v", v, a)
		}
	}
	for i := range 3 {
		r := b.begin(2, i, swap(openText))
		r.does("lock 2 call")
		r.error = api.ErrOver
		r.does("load 0", "unlock 2 return 0 0")
		b.wantGate(topVersion, 0, 0)
	}
	// The rules are still those of the last version, which accept nothing.
	b.begin(3, 0, b.pairs["a"].sent(opening)).does("lock 0 read 0 call", "load 0 read 4097 act 3 a", "unlock 0", "load 3", "store 3 count 3 return 3 0")
	b.begin(2, 3, swap("?")).expectOnly(api.ErrText)
}

// P21.1: a swap that waits for the last version does not make another one.
func TestSwapWaitsAndEnds(t *testing.T) {
	b := newBench(t)
	for v := 1; v < topVersion; v++ {
		for r := Begin(b.s, 1, v, swap("")); r.Step(); {
		}
	}
	b.learn()
	r, q := b.begin(1, 0, swap(openText)), b.begin(2, 0, swap(shutText))
	r.does("lock 2 call", "load 0 write 4097")
	q.waits()
	r.does("store 0 swap 4095")
	q.waits()
	r.does("unlock 2 return 0 4095")
	q.error = api.ErrOver
	q.does("lock 2 call", "load 0", "unlock 2 return 0 0")
	b.whole(3, 0, b.pairs["a"].sent(opening), verdict(accepted))
}

// P21.1, P21.2: a stat of each verdict, and of none.
func TestStat(t *testing.T) {
	b := benchOf(t, 2, 1, open())
	for i, x := range []struct {
		op api.Op
		n  int
	}{{b.pairs["a"].sent(opening), 1}, {api.Op{Kind: isPacket}, 2}, {b.pairs["a"].sent(answer), 4}, {b.pairs["b"].sent(opening), 5}} {
		for range x.n {
			for r := Begin(b.s, 0, i, x.op); r.Step(); {
			}
		}
	}
	b.whole(0, 9, swap(""), number(1))
	for range 3 {
		b.whole(0, 10, b.pairs["y"].sent(plain), verdict(denied))
	}
	b.wantStats(1, 2, 3, 4, 5)
	for range 2 {
		b.begin(1, 3, stat(1)).does("load 1 call stat 1 1 return 0 1")
		b.begin(1, 3, stat(2)).does("load 2 call stat 2 2 return 0 2")
		b.begin(1, 3, stat(3)).does("load 3 call stat 3 3 return 0 3")
		b.begin(2, 4, stat(4)).does("load 4 call stat 4 4 return 0 4")
		b.begin(3, 5, stat(5)).does("load 5 call stat 5 5 return 0 5")
	}
	for _, v := range append(edges(), -2, -1, 0, 6, 7) {
		b.begin(1, 3, stat(v)).expectOnly(api.ErrArg)
	}
	b.wantStats(1, 2, 3, 4, 5)
	b.wantGate(1, 1, 0)
}

// P21.1, P21.2: a counter of 2^63 or above is the integer with the same bits.
func TestStatOfGreatCounters(t *testing.T) {
	b := newBench(t)
	for v := 1; v <= 5; v++ {
		for _, x := range []struct {
			count uint64
			text  string
		}{
			{1<<63 - 1, "9223372036854775807"}, {1 << 63, "-9223372036854775808"}, {1<<63 + 1, "-9223372036854775807"},
			{math.MaxUint64, "-1"}, {math.MaxUint64 - 1, "-2"}, {1 << 62, "4611686018427387904"}, {1 << 32, "4294967296"}, {0, "0"},
		} {
			b.set(v, x.count)
			w := string(rune('0' + v))
			b.begin(0, 0, stat(v)).does("load " + w + " call stat " + w + " " + x.text + " return 0 " + x.text)
			if n := b.s.Stat(v); n != x.count {
				t.Errorf("Stat(%d) = %d, want %d", v, n, x.count)
			}
		}
	}
}

// P21.1, P21.2: ops of unknown Kinds, whatever else they have.
func TestUnknownKinds(t *testing.T) {
	b := newBench(t)
	a := b.pairs["a"]
	b.whole(0, 0, a.sent(opening), verdict(accepted))
	for i, kind := range append(edges(), -6, -5, -4, -3, -2, -1, 0, 7, 8, 9, 10, 15, 16) {
		if kind >= 1 && kind <= 6 {
			continue
		}
		b.begin(i, -i, api.Op{Kind: kind}).expectOnly(api.ErrArg)
		b.begin(i, -i, api.Op{Kind: kind, N: 1, B: a.replied(answer).B, S: shutText}).expectOnly(api.ErrArg)
	}
	b.wantGate(0, 1, 0)
	b.wantStats(1, 0, 0, 0, 0)
	b.wantFlow(6, 1, 1, times()[1])
}

// P21.1: what belongs to other Kinds makes no difference.
func TestOtherFields(t *testing.T) {
	b := newBench(t)
	a := b.pairs["a"]
	x := a.sent(opening)
	x.N, x.S = 5, "?"
	b.begin(0, 0, x).does("lock 0 read 0 call", "load 0 read 2", "store 0 write 0 act 1 a", "unlock 0", "load 1", "store 1 count 1 return 1 0")
	b.begin(0, 1, api.Op{Kind: isTick, N: 1, B: []byte{1}, S: "?"}).does("load 0 call", "store 0 tick 1 return 0 1")
	b.begin(0, 2, api.Op{Kind: isSwap, N: -4, B: []byte{1}}).does("lock 2 call", "load 0 write 3", "store 0 swap 1", "unlock 2 return 0 1")
	b.begin(0, 3, api.Op{Kind: isStat, N: 1, B: x.B, S: "?"}).does("load 1 call stat 1 1 return 0 1")
	b.begin(0, 4, api.Op{Kind: isCollect, N: 7, B: x.B, S: "?"}).does("lock 0 read 0 call", "read 0 load 6", "load 0", "unlock 0", "lock 1 read 1", "unlock 1 return 0 0")
	b.begin(0, 5, api.Op{Kind: isFlush, N: -7, B: x.B, S: "?"}).does(
		"lock 0 read 0 call", "read 0 load 6", "store 6 write 0", "load 0", "store 0 delete 1 a", "unlock 0", "lock 1 read 1", "unlock 1 return 0 1")
}
