package prog

import (
	"slices"
	"strconv"
	"strings"
	"testing"

	"mantlet/api"
)

// P21.1, P21.2: a collect and a flush of no flow: each stripe is locked and unlocked, in order.
func TestSweepNothing(t *testing.T) {
	for _, x := range []api.Op{collect(), flush()} {
		for stripes := 1; stripes <= 64; stripes *= 2 {
			b := benchOf(t, stripes, 1, open())
			r := b.begin(3, 4, x)
			for n := range stripes {
				s := strconv.Itoa(n)
				first, last := "lock "+s+" read "+s, "unlock "+s
				if n == 0 {
					first += " call"
				}
				if n == stripes-1 {
					last += " return 0 0"
				}
				r.does(first, last)
			}
			b.wantGate(0, 0, 0)
		}
	}
}

// P21.1: a collect and a flush of the most stripes.
func TestSweepMost(t *testing.T) {
	for _, x := range []api.Op{collect(), flush()} {
		b := benchOf(t, 4096, 1, open())
		b.whole(0, 0, b.pairs["x"].sent(opening), verdict(accepted))
		b.whole(0, 1, tick(1000), number(1000))
		n := len(b.log)
		b.whole(0, 2, x, number(1))
		want := 3*4096 + 6
		if x.Kind == isCollect {
			want++
		}
		if got := len(b.log) - n; got != want {
			t.Errorf("%d accesses, want %d", got, want)
		}
	}
}

// filled returns a bench with flows: a, b and c in stripe 0 with the words 6, 7 and 8, and x and y in stripe 1 with the words 9 and 10; their keys are in this order. The flows b and x are not over at the clock.
func filled(t *testing.T) *bench {
	t.Helper()
	b := newBench(t)
	for i, n := range []string{"a", "b", "c", "x", "y"} {
		b.whole(0, i, b.pairs[n].sent(opening), verdict(accepted))
	}
	b.whole(0, 5, tick(50), number(50))
	b.whole(0, 6, b.pairs["b"].replied(answer), verdict(accepted))
	b.whole(0, 7, b.pairs["x"].sent(opening), verdict(accepted))
	b.whole(0, 8, tick(times()[1]-50), number(times()[1]))
	if got := b.s.Keys(); !slices.Equal(got, b.keys("a", "b", "c", "x", "y")) {
		t.Fatalf("keys %v", got)
	}
	return b
}

// P21.1, P21.2: a collect removes what is over, in the order of stripes and keys.
func TestCollect(t *testing.T) {
	b := filled(t)
	r := b.begin(2, 1, collect())
	r.does(
		"lock 0 read 0 call",
		"read 0 load 6",
		"load 0")
	b.wantKeys("a", "b", "c", "x", "y")
	r.does("store 6 write 0")
	b.wantKeys("b", "c", "x", "y")
	b.wantFlow(6, 15, 0, 0)
	b.wantGate(0, 5, times()[1])
	r.does("load 0", "store 0 delete 0 a")
	b.wantGate(0, 4, times()[1])
	r.does(
		"read 0 load 7",
		"load 0",
		"read 0 load 8",
		"load 0",
		"store 8 write 0",
		"load 0",
		"store 0 delete 0 c",
		"unlock 0",
		"lock 1 read 1",
		"read 1 load 9",
		"load 0",
		"read 1 load 10",
		"load 0",
		"store 10 write 1",
		"load 0",
		"store 0 delete 0 y",
		"unlock 1 return 0 3")
	b.wantKeys("b", "x")
	b.wantGate(0, 2, times()[1])
	b.wantFlow(7, 2, 2, 50+times()[2])
	b.wantFlow(8, 15, 0, 0)
	b.wantFlow(9, 1, 2, 50+times()[1])
	b.wantFlow(10, 15, 0, 0)
	b.wantStats(7, 0, 0, 0, 0)
	b.begin(2, 2, collect()).does(
		"lock 0 read 0 call", "read 0 load 7", "load 0", "unlock 0",
		"lock 1 read 1", "read 1 load 9", "load 0", "unlock 1 return 0 0")
}

// P21.1, P21.2: a flush removes all flows, over or not.
func TestFlush(t *testing.T) {
	b := filled(t)
	r := b.begin(2, 1, flush())
	r.does(
		"lock 0 read 0 call",
		"read 0 load 6",
		"store 6 write 0",
		"load 0",
		"store 0 delete 1 a",
		"read 0 load 7")
	b.wantKeys("b", "c", "x", "y")
	r.does("store 7 write 0")
	b.wantKeys("c", "x", "y")
	b.wantFlow(7, 15, 0, 0)
	b.wantGate(0, 4, times()[1])
	r.does(
		"load 0",
		"store 0 delete 1 b",
		"read 0 load 8",
		"store 8 write 0",
		"load 0",
		"store 0 delete 1 c",
		"unlock 0",
		"lock 1 read 1",
		"read 1 load 9",
		"store 9 write 1",
		"load 0",
		"store 0 delete 1 x",
		"read 1 load 10",
		"store 10 write 1",
		"load 0",
		"store 0 delete 1 y",
		"unlock 1 return 0 5")
	b.wantKeys()
	b.wantGate(0, 0, times()[1])
	b.begin(2, 2, flush()).does("lock 0 read 0 call", "unlock 0", "lock 1 read 1", "unlock 1 return 0 0")
	// What was flushed can be opened again.
	b.whole(1, 0, b.pairs["a"].sent(opening), verdict(accepted))
	b.wantFlow(11, 1, 1, 2*times()[1])
}

// P21.1: a collect takes a flow only when it is over, to the tick.
func TestCollectEdge(t *testing.T) {
	b := newBench(t)
	b.whole(0, 0, b.pairs["x"].sent(opening), verdict(accepted))
	b.whole(0, 1, tick(times()[1]-1), number(times()[1]-1))
	b.whole(0, 2, collect(), number(0))
	b.wantKeys("x")
	b.whole(0, 3, tick(1), number(times()[1]))
	b.whole(0, 4, collect(), number(1))
	b.wantKeys()
	b.wantGate(0, 0, times()[1])
}

// P21.1, P21.2: a single flow, in the first and in the last of several stripes.
func TestSweepOne(t *testing.T) {
	for _, x := range []struct {
		name   string
		clock  int
		op     api.Op
		act    string
		remain []string
	}{
		{"a", 0, flush(), "lock 0 read 0 call, read 0 load 6, store 6 write 0, load 0, store 0 delete 1 a, unlock 0, lock 1 read 1, unlock 1 return 0 1", nil},
		{"x", 0, flush(), "lock 0 read 0 call, unlock 0, lock 1 read 1, read 1 load 6, store 6 write 1, load 0, store 0 delete 1 x, unlock 1 return 0 1", nil},
		{"a", 500, flush(), "lock 0 read 0 call, read 0 load 6, store 6 write 0, load 0, store 0 delete 1 a, unlock 0, lock 1 read 1, unlock 1 return 0 1", nil},
		{"x", 500, flush(), "lock 0 read 0 call, unlock 0, lock 1 read 1, read 1 load 6, store 6 write 1, load 0, store 0 delete 1 x, unlock 1 return 0 1", nil},
		{"a", 500, collect(), "lock 0 read 0 call, read 0 load 6, load 0, store 6 write 0, load 0, store 0 delete 0 a, unlock 0, lock 1 read 1, unlock 1 return 0 1", nil},
		{"x", 500, collect(), "lock 0 read 0 call, unlock 0, lock 1 read 1, read 1 load 6, load 0, store 6 write 1, load 0, store 0 delete 0 x, unlock 1 return 0 1", nil},
		{"a", 0, collect(), "lock 0 read 0 call, read 0 load 6, load 0, unlock 0, lock 1 read 1, unlock 1 return 0 0", []string{"a"}},
		{"x", 0, collect(), "lock 0 read 0 call, unlock 0, lock 1 read 1, read 1 load 6, load 0, unlock 1 return 0 0", []string{"x"}},
	} {
		b := newBench(t)
		b.whole(0, 0, b.pairs[x.name].sent(opening), verdict(accepted))
		b.whole(0, 1, tick(x.clock), number(x.clock))
		b.begin(1, 1, x.op).does(strings.Split(x.act, ", ")...)
		b.wantKeys(x.remain...)
		b.wantGate(0, len(x.remain), x.clock)
	}
}

// P21.1: while a sweep works on one stripe, packets of the other one go on; what is opened behind it stays.
func TestSweepLetsOthersPass(t *testing.T) {
	b := newBench(t)
	b.whole(0, 0, b.pairs["a"].sent(opening), verdict(accepted))
	r := b.begin(1, 0, flush())
	r.does("lock 0 read 0 call")
	b.whole(0, 1, b.pairs["x"].sent(opening), verdict(accepted))
	r.does("read 0 load 6", "store 6 write 0", "load 0", "store 0 delete 1 a", "unlock 0")
	b.whole(0, 2, b.pairs["b"].sent(opening), verdict(accepted))
	r.does("lock 1 read 1", "read 1 load 7", "store 7 write 1", "load 0", "store 0 delete 1 x", "unlock 1 return 0 2")
	b.wantKeys("b")
	b.wantGate(0, 1, 0)
}
