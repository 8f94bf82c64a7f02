package prog

import (
	"testing"

	"mantlet/api"
)

// opened returns a bench with the flows a, in stripe 0, and x, in stripe 1: their words are 6 and 7.
func opened(t *testing.T) *bench {
	t.Helper()
	b := newBench(t)
	b.whole(0, 0, b.pairs["a"].sent(opening), verdict(accepted))
	b.whole(0, 1, b.pairs["x"].sent(opening), verdict(accepted))
	return b
}

// The last acts of a packet that was accepted in its flow, and of one that was judged in its stripe.
var (
	countsAccept = []string{"load 1", "store 1 count 1 return 1 0"}
	countsDenied = []string{"unlock 0", "load 3", "store 3 count 3 return 3 0"}
	opensAnew    = []string{"unlock 0", "load 1", "store 1 count 1 return 1 0"}
)

// P21.1, P21.2: an advance whose flow has changed: the flow is loaded and judged again, and the first mark is not filled.
func TestAdvanceAgain(t *testing.T) {
	b := opened(t)
	r := b.begin(1, 7, b.pairs["a"].replied(answer))
	r.does("lock 0 read 0 call", "unlock 0", "load 6", "load 0 mark")
	b.whole(2, 0, b.pairs["a"].sent(opening), verdict(accepted))
	b.whole(2, 1, tick(3), number(3))
	r.does("load 6", "load 6", "load 0 mark")
	b.whole(2, 2, tick(4), number(7))
	// The clock is that of the judge.
	r.does("store 6 fill 1 a")
	b.wantFlow(6, 2, 3, 3+times()[2])
	r.does(countsAccept...)
}

// P21.1: what was valid may no longer be so, and the other way round.
func TestAdvanceTurnsInvalid(t *testing.T) {
	b := opened(t)
	b.whole(2, 0, b.pairs["a"].replied(answer), verdict(accepted))
	r, q := b.begin(1, 0, b.pairs["a"].sent(opening)), b.begin(3, 0, b.pairs["a"].replied(plain))
	r.does("lock 0 read 0 call", "unlock 0", "load 6", "load 0 mark")
	q.does("lock 0 read 0 call", "unlock 0", "load 6", "load 0 mark")
	b.whole(2, 1, b.pairs["a"].sent(plain), verdict(accepted))
	// r was valid in SynRecv and is not in Open; q the other way round.
	r.does("load 6", "load 6", "load 0 mark")
	q.does("load 6", "load 6", "load 0 mark")
	r.does("store 6 fill 4 a")
	q.does("load 6", "load 6", "load 0 mark", "store 6 fill 1 a")
	r.does("load 4", "store 4 count 4 return 4 0")
	q.does(countsAccept...)
	b.wantFlow(6, 3, 5, times()[3])
}

// P21.1: a sure whose flow has changed.
func TestSureAgain(t *testing.T) {
	b := opened(t)
	r := b.begin(1, 7, b.pairs["a"].replied(ending))
	r.does("lock 0 read 0 call", "unlock 0", "load 6", "load 0 mark")
	b.whole(2, 0, b.pairs["a"].replied(plain), verdict(invalid))
	r.does("load 6", "load 6", "load 0 mark", "store 6 fill 4 a", "load 4", "store 4 count 4 return 4 0")
	b.wantFlow(6, 1, 3, times()[1])
}

// P21.2: marks are listed in the order in which they were set, whichever is filled first.
func TestMarksInOrder(t *testing.T) {
	b := opened(t)
	r, q, p := b.begin(1, 5, b.pairs["a"].sent(opening)), b.begin(2, 6, b.pairs["x"].sent(opening)), b.begin(3, 7, b.pairs["x"].sent(plain))
	r.does("lock 0 read 0 call", "unlock 0", "load 6")
	q.does("lock 1 read 1 call", "unlock 1", "load 7")
	p.does("lock 1 read 1 call", "unlock 1", "load 7")
	p.does("load 0 mark")
	r.does("load 0 mark")
	q.does("load 0 mark")
	b.whole(4, 0, tick(1), number(1))
	q.does("store 7 fill 1 x")
	b.whole(4, 1, stat(1), number(2))
	r.does("store 6 fill 1 a")
	p.does("load 7", "load 7", "load 0 mark")
	b.whole(4, 2, tick(1), number(2))
	p.does("store 7 fill 4 x")
	q.does(countsAccept...)
	r.does(countsAccept...)
	p.does("load 4", "store 4 count 4 return 4 0")
	want := []api.Point{
		{Kind: api.PtAct, Thread: 1, Op: 5, Key: b.keyOf("a"), Verdict: 1},
		{Kind: api.PtAct, Thread: 2, Op: 6, Key: b.keyOf("x"), Verdict: 1},
		{Kind: api.PtCall, Thread: 4, Op: 0},
	}
	// Behind the 8 points of the two packets that opened the flows are 3 calls.
	for i, x := range want {
		if got := b.s.Points()[11+i]; got != x {
			t.Errorf("point %d is %v, want %v", 11+i, got, x)
		}
	}
}

// P21.1, P21.2: a flow that is flushed between judge and advance: its word is Dead, and the packet is judged without a flow.
func TestAdvanceDead(t *testing.T) {
	b := opened(t)
	r := b.begin(1, 0, b.pairs["a"].sent(opening))
	r.does("lock 0 read 0 call", "unlock 0", "load 6", "load 0 mark")
	b.whole(2, 0, flush(), number(2))
	r.does("load 6", "load 6", "lock 0 read 0", "load 0 read 2", "store 0 write 0 act 1 a")
	r.does(opensAnew...)
	b.wantKeys("a")
	b.wantGate(0, 1, 0)
}

// P21.1: the same for a sure.
func TestSureDead(t *testing.T) {
	b := opened(t)
	r := b.begin(1, 0, b.pairs["a"].sent(answer))
	r.does("lock 0 read 0 call", "unlock 0", "load 6", "load 0 mark")
	b.whole(2, 0, flush(), number(2))
	r.does("load 6", "load 6", "lock 0 read 0", "load 0 read 2 act 4 a", "unlock 0", "load 4", "store 4 count 4 return 4 0")
	b.wantKeys()
}

// P21.1, P21.2: a word that is Dead when it is loaded; the flow is there again under another word.
func TestLoadDead(t *testing.T) {
	b := opened(t)
	r := b.begin(1, 0, b.pairs["a"].replied(answer))
	r.does("lock 0 read 0 call", "unlock 0")
	b.whole(2, 0, flush(), number(2))
	// The other end opens the flow anew, so that the packet is no longer a reply.
	b.whole(2, 1, b.pairs["a"].replied(opening), verdict(accepted))
	r.does("load 6", "lock 0 read 0", "unlock 0", "load 8", "load 0 mark", "store 8 fill 4 a", "load 4", "store 4 count 4 return 4 0")
	b.wantFlow(6, 15, 0, 0)
	b.wantFlow(8, 1, 2, times()[1])
}

// P21.1: a find waits while anyone holds the stripe's mutex, and others do not.
func TestFindWaits(t *testing.T) {
	b := opened(t)
	q := b.begin(1, 0, b.pairs["b"].sent(opening))
	r := b.begin(2, 0, b.pairs["a"].sent(opening))
	same := b.begin(1, 1, b.pairs["c"].sent(opening))
	q.does("lock 0 read 0 call")
	r.waits()
	// Even the same thread waits for what it holds.
	same.waits()
	b.whole(3, 0, b.pairs["x"].sent(opening), verdict(accepted))
	q.does("load 0 read 2")
	r.waits()
	q.does("store 0 write 0 act 1 b")
	r.waits()
	same.waits()
	q.does("unlock 0")
	if r.Blocked() || same.Blocked() {
		t.Error("blocked by nobody")
	}
	r.does("lock 0 read 0 call")
	same.waits()
	r.does("unlock 0")
	same.does("lock 0 read 0 call", "load 0 read 2", "store 0 write 0 act 1 c", "unlock 0")
	q.does(countsAccept...)
	same.does(countsAccept...)
	r.does("load 6", "load 0 mark", "store 6 fill 1 a")
	r.does(countsAccept...)
}

// P21.1: the find behind a Dead word waits.
func TestFindAgainWaits(t *testing.T) {
	b := opened(t)
	r := b.begin(1, 0, b.pairs["a"].sent(opening))
	r.does("lock 0 read 0 call", "unlock 0")
	q := b.begin(2, 0, flush())
	q.does("lock 0 read 0 call", "read 0 load 6", "store 6 write 0")
	r.does("load 6 waits")
	r.waits()
	q.does("load 0", "store 0 delete 1 a")
	r.waits()
	q.does("unlock 0")
	r.does("lock 0 read 0", "load 0 read 2", "store 0 write 0 act 1 a")
	r.does(opensAnew...)
	q.does("lock 1 read 1", "read 1 load 7", "store 7 write 1", "load 0", "store 0 delete 1 x", "unlock 1 return 0 2")
}

// P21.1: a look waits.
func TestLookWaits(t *testing.T) {
	b := opened(t)
	b.whole(0, 2, tick(1000), number(1000))
	r, q := b.begin(1, 0, b.pairs["a"].sent(opening)), b.begin(2, 0, b.pairs["b"].sent(opening))
	r.does("lock 0 read 0 call", "unlock 0", "load 6")
	q.does("lock 0 read 0 call")
	r.does("load 0 mark waits")
	r.waits()
	q.does("load 0 read 2")
	r.waits()
	q.does("store 0 write 0 act 1 b", "unlock 0")
	r.does("lock 0 read 0", "load 6")
	q.does(countsAccept...)
	r.does("load 0", "store 6 write 0", "load 0", "store 0 delete 0 a", "load 0 read 2", "store 0 write 0 act 1 a")
	r.does(opensAnew...)
}

// P21.1, P21.2: a look that finds no flow any more, as another thread has removed it.
func TestLookAbsent(t *testing.T) {
	b := opened(t)
	b.whole(0, 2, tick(1000), number(1000))
	r := b.begin(1, 0, b.pairs["a"].sent(opening))
	r.does("lock 0 read 0 call", "unlock 0", "load 6", "load 0 mark")
	b.whole(2, 0, collect(), number(2))
	r.does("lock 0 read 0", "load 0 read 2", "store 0 write 0 act 1 a")
	r.does(opensAnew...)
	b.wantKeys("a")
	b.wantGate(0, 1, 1000)
}

// P21.1, P21.2: a look that finds the flow under another word, which is not over: it is released and loaded.
func TestLookAnother(t *testing.T) {
	b := opened(t)
	b.whole(0, 2, tick(1000), number(1000))
	r := b.begin(1, 0, b.pairs["a"].replied(answer))
	r.does("lock 0 read 0 call", "unlock 0", "load 6", "load 0 mark")
	b.whole(2, 0, collect(), number(2))
	b.whole(2, 1, b.pairs["a"].sent(opening), verdict(accepted))
	r.does("lock 0 read 0", "load 8", "load 0", "unlock 0", "load 8", "load 0 mark", "store 8 fill 1 a")
	r.does(countsAccept...)
	b.wantFlow(8, 2, 2, 1000+times()[2])
}

// P21.1: a look finds who opened the flow, too.
func TestLookTurned(t *testing.T) {
	b := opened(t)
	b.whole(0, 2, tick(1000), number(1000))
	r := b.begin(1, 0, b.pairs["a"].sent(answer))
	r.does("lock 0 read 0 call", "unlock 0", "load 6", "load 0 mark")
	b.whole(2, 0, b.pairs["a"].replied(opening), verdict(accepted))
	r.does("lock 0 read 0", "load 8", "load 0", "unlock 0", "load 8", "load 0 mark", "store 8 fill 1 a")
	r.does(countsAccept...)
}

// nearlyOver returns a bench whose flow a is over at its clock, and a packet of thread 1 that has judged it before: its next act is the advance.
func nearlyOver(t *testing.T) (*bench, *run) {
	t.Helper()
	b := opened(t)
	b.whole(0, 2, tick(times()[1]-1), number(times()[1]-1))
	r := b.begin(1, 0, b.pairs["a"].replied(answer))
	r.does("lock 0 read 0 call", "unlock 0", "load 6", "load 0 mark")
	b.whole(0, 3, tick(1), number(times()[1]))
	return b, r
}

// P21.1, P21.2: a flow that was over at the judge, but has gone on when it is looked at: over leads to release.
func TestOverRelease(t *testing.T) {
	b, slow := nearlyOver(t)
	r := b.begin(2, 0, b.pairs["a"].sent(plain))
	r.does("lock 0 read 0 call", "unlock 0", "load 6", "load 0 mark")
	slow.does("store 6 fill 1 a")
	r.does("lock 0 read 0", "load 6", "load 0", "unlock 0", "load 6", "load 0 mark", "store 6 fill 1 a")
	r.does(countsAccept...)
	slow.does(countsAccept...)
	b.wantFlow(6, 3, 3, times()[1]+times()[3])
}

// P21.1, P21.2: a kill whose flow has changed: it is loaded again, and here spared.
func TestKillAgain(t *testing.T) {
	b, slow := nearlyOver(t)
	r := b.begin(2, 0, b.pairs["a"].sent(plain))
	r.does("lock 0 read 0 call", "unlock 0", "load 6", "load 0 mark", "lock 0 read 0", "load 6", "load 0")
	slow.does("store 6 fill 1 a")
	r.does("load 6")
	b.wantKeys("a", "x")
	b.wantGate(0, 2, times()[1])
	r.does("load 6", "load 0", "unlock 0", "load 6", "load 0 mark", "store 6 fill 1 a")
	r.does(countsAccept...)
	slow.does(countsAccept...)
}

// P21.1, P21.2: a kill whose flow has changed, and is over all the same.
func TestKillAgainAndOver(t *testing.T) {
	b, slow := nearlyOver(t)
	r := b.begin(2, 0, b.pairs["a"].sent(opening))
	r.does("lock 0 read 0 call", "unlock 0", "load 6", "load 0 mark", "lock 0 read 0", "load 6", "load 0")
	slow.does("store 6 fill 1 a")
	b.whole(0, 4, tick(1000), number(times()[1]+1000))
	r.does("load 6", "load 6", "load 0", "store 6 write 0", "load 0", "store 0 delete 0 a", "load 0 read 2", "store 0 write 0 act 1 a")
	r.does(opensAnew...)
	slow.does(countsAccept...)
	b.wantGate(0, 2, times()[1]+1000)
}

// P21.1, P21.2: an advance behind a kill fails.
func TestAdvanceKilled(t *testing.T) {
	b, slow := nearlyOver(t)
	b.whole(2, 0, b.pairs["a"].sent(opening), verdict(accepted))
	slow.does("load 6", "load 6", "lock 0 read 0", "unlock 0", "load 8", "load 0 mark", "store 8 fill 1 a")
	slow.does(countsAccept...)
	b.wantGate(0, 2, times()[1])
}

// P21.1, P21.2: a leave whose gate has changed: the gate is loaded again.
func TestLeaveAgain(t *testing.T) {
	b := opened(t)
	b.whole(0, 2, tick(1000), number(1000))
	r := b.begin(1, 0, b.pairs["a"].sent(opening))
	r.does("lock 0 read 0 call", "unlock 0", "load 6", "load 0 mark", "lock 0 read 0", "load 6", "load 0", "store 6 write 0", "load 0")
	b.whole(2, 0, tick(1), number(1001))
	r.does("load 0")
	b.wantGate(0, 2, 1001)
	r.does("load 0")
	b.whole(2, 1, swap(shutText), number(1))
	r.does("load 0", "load 0", "store 0 delete 0 a")
	b.wantGate(1, 1, 1001)
	r.does("load 0 read 3 act 3 a")
	r.does(countsDenied...)
}

// P21.1, P21.2: an enter whose gate has changed: the packet is judged again, by what the gate says then.
func TestEnterAgain(t *testing.T) {
	begin := []string{"lock 0 read 0 call", "load 0 read 2"}
	b := benchOf(t, 2, 1, open())
	r := b.begin(1, 0, b.pairs["a"].sent(opening))
	r.does(begin...)
	b.whole(2, 0, tick(9), number(9))
	r.does("load 0", "load 0 read 2", "store 0 write 0 act 1 a")
	r.does(opensAnew...)
	b.wantFlow(6, 1, 1, 9+times()[1])

	b = benchOf(t, 2, 1, open())
	r = b.begin(1, 0, b.pairs["a"].sent(opening))
	r.does(begin...)
	b.whole(2, 0, swap(shutText), number(1))
	r.does("load 0", "load 0 read 3 act 3 a")
	r.does(countsDenied...)
	b.wantKeys()
	if b.s.memory.Words() != 6 {
		t.Errorf("%d words", b.s.memory.Words())
	}

	b = benchOf(t, 2, 1, open())
	r = b.begin(1, 0, b.pairs["a"].sent(opening))
	r.does(begin...)
	b.whole(2, 0, b.pairs["x"].sent(opening), verdict(accepted))
	r.does("load 0", "load 0 read 2 act 5 a", "unlock 0", "load 5", "store 5 count 5 return 5 0")
	b.wantKeys("x")
	b.wantGate(0, 1, 0)
}

// P21.1: an enter whose gate has become what it was.
func TestEnterSameGate(t *testing.T) {
	b := newBench(t)
	r := b.begin(1, 0, b.pairs["a"].sent(opening))
	r.does("lock 0 read 0 call", "load 0 read 2")
	b.whole(2, 0, b.pairs["x"].sent(opening), verdict(accepted))
	q := b.begin(2, 1, flush())
	q.waits()
	b.whole(2, 2, tick(0), number(0))
	r.does("load 0", "load 0 read 2")
	b.whole(2, 2, tick(0), number(0))
	r.does("store 0 write 0 act 1 a", "unlock 0")
	q.does("lock 0 read 0 call")
	r.does(countsAccept...)
	b.wantGate(0, 2, 0)
}

// P21.1, P21.2: an add whose counter has changed: the counter is loaded again.
func TestAddAgain(t *testing.T) {
	b := newBench(t)
	p, q := b.begin(1, 0, b.pairs["a"].sent(plain)), b.begin(2, 0, b.pairs["x"].sent(plain))
	p.does("lock 0 read 0 call", "load 0 read 2 act 4 a", "unlock 0", "load 4")
	q.does("lock 1 read 1 call", "load 0 read 2 act 4 x", "unlock 1", "load 4")
	b.whole(3, 0, api.Op{Kind: isPacket}, api.Reply{E: api.ErrShort, Verdict: malformed})
	p.does("store 4 count 4 return 4 0")
	q.does("load 4", "load 4")
	b.whole(3, 1, b.pairs["b"].sent(plain), verdict(invalid))
	q.does("load 4", "load 4", "store 4 count 4 return 4 0")
	b.wantStats(0, 1, 0, 3, 0)
	// A malformed packet has its PtAct only once.
	r, s := b.begin(1, 1, api.Op{Kind: isPacket}), b.begin(2, 1, api.Op{Kind: isPacket})
	r.error, s.error = api.ErrShort, api.ErrShort
	r.does("load 2 call act 2 -")
	s.does("load 2 call act 2 -", "store 2 count 2 return 2 0")
	r.does("load 2", "load 2", "store 2 count 2 return 2 0")
	b.wantStats(0, 3, 0, 3, 0)
}

// P21.1: a counter that ends between the count and the add.
func TestAddEnds(t *testing.T) {
	b := newBench(t)
	b.set(4, 1<<64-2)
	p, q := b.begin(1, 0, b.pairs["a"].sent(plain)), b.begin(2, 0, b.pairs["x"].sent(plain))
	p.does("lock 0 read 0 call", "load 0 read 2 act 4 a", "unlock 0", "load 4")
	q.does("lock 1 read 1 call", "load 0 read 2 act 4 x", "unlock 1", "load 4", "store 4 count 4 return 4 0")
	p.does("load 4", "load 4 count 4 return 4 0")
	b.wantStats(0, 0, 0, 1<<64-1, 0)
}

// P21.1, P21.2: a tick whose gate has changed: the Load is repeated.
func TestTickAgain(t *testing.T) {
	b := newBench(t)
	p, q := b.begin(1, 0, tick(3)), b.begin(2, 0, tick(4))
	p.does("load 0 call")
	q.does("load 0 call", "store 0 tick 4 return 0 4")
	p.does("load 0", "load 0")
	b.whole(0, 0, b.pairs["a"].sent(opening), verdict(accepted))
	p.does("load 0", "load 0")
	// A tick of nothing leaves the gate as it was.
	b.whole(0, 1, tick(0), number(4))
	p.does("store 0 tick 3 return 0 7")
	b.wantGate(0, 1, 7)
}

// P21.1, P21.2: a swap whose gate has changed: the Load is repeated, and the Write with it.
func TestSwapAgain(t *testing.T) {
	b := newBench(t)
	r := b.begin(1, 0, swap(shutText))
	r.does("lock 2 call", "load 0 write 3")
	b.whole(2, 0, tick(1), number(1))
	r.does("load 0")
	b.wantGate(0, 0, 1)
	r.does("load 0 write 3")
	b.whole(2, 1, b.pairs["a"].sent(opening), verdict(accepted))
	r.does("load 0", "load 0 write 3", "store 0 swap 1")
	b.whole(2, 2, b.pairs["b"].sent(opening), verdict(denied))
	r.does("unlock 2 return 0 1")
	b.wantGate(1, 1, 1)
}

// P21.1: a swap waits for another one, and then makes the version behind it.
func TestSwapWaits(t *testing.T) {
	b := newBench(t)
	p, q, again := b.begin(1, 0, swap(shutText)), b.begin(2, 0, swap("")), b.begin(1, 1, swap(openText))
	p.does("lock 2 call")
	q.waits()
	again.waits()
	b.begin(3, 0, swap("?")).expectOnly(api.ErrText)
	// Packets and sweeps do not need this mutex.
	b.whole(3, 1, b.pairs["a"].sent(opening), verdict(accepted))
	b.whole(3, 2, flush(), number(1))
	p.does("load 0 write 3", "store 0 swap 1")
	q.waits()
	p.does("unlock 2 return 0 1")
	again.does("lock 2 call")
	q.waits()
	again.does("load 0 write 4", "store 0 swap 2", "unlock 2 return 0 2")
	q.does("lock 2 call", "load 0 write 5", "store 0 swap 3", "unlock 2 return 0 3")
	b.whole(3, 3, b.pairs["a"].sent(opening), verdict(denied))
}

// P21.1, P21.2: a collect's kill whose flow has changed: Find and Load are repeated, and the flow is spared.
func TestCollectAgain(t *testing.T) {
	b, slow := nearlyOver(t)
	r := b.begin(2, 0, collect())
	r.does("lock 0 read 0 call", "read 0 load 6", "load 0")
	slow.does("store 6 fill 1 a")
	r.does("load 6")
	b.wantKeys("a", "x")
	r.does("read 0 load 6", "load 0", "unlock 0", "lock 1 read 1", "read 1 load 7", "load 0", "store 7 write 1", "load 0")
	b.whole(3, 0, tick(1), number(times()[1]+1))
	r.does("load 0")
	b.wantGate(0, 2, times()[1]+1)
	r.does("load 0", "store 0 delete 0 x", "unlock 1 return 0 1")
	slow.does(countsAccept...)
	b.wantKeys("a")
}

// P21.1, P21.2: a collect's kill whose flow has changed, and is over all the same.
func TestCollectAgainAndOver(t *testing.T) {
	b, slow := nearlyOver(t)
	r := b.begin(2, 0, collect())
	r.does("lock 0 read 0 call", "read 0 load 6", "load 0")
	slow.does("store 6 fill 1 a")
	b.whole(3, 0, tick(2000), number(times()[1]+2000))
	r.does("load 6", "read 0 load 6", "load 0", "store 6 write 0", "load 0", "store 0 delete 0 a", "unlock 0")
	r.does("lock 1 read 1", "read 1 load 7", "load 0", "store 7 write 1", "load 0", "store 0 delete 0 x", "unlock 1 return 0 2")
	slow.does(countsAccept...)
}

// P21.1, P21.2: the clock of a collect is that of its Load, for each flow again.
func TestCollectClock(t *testing.T) {
	b := opened(t)
	r := b.begin(2, 0, collect())
	r.does("lock 0 read 0 call", "read 0 load 6", "load 0")
	b.whole(3, 0, tick(1000), number(1000))
	r.does("unlock 0", "lock 1 read 1", "read 1 load 7", "load 0", "store 7 write 1", "load 0", "store 0 delete 0 x", "unlock 1 return 0 1")
	b.wantKeys("a")
}

// P21.1, P21.2: a flush's kill whose flow has changed: Find and Load are repeated.
func TestFlushAgain(t *testing.T) {
	b, slow := nearlyOver(t)
	r := b.begin(2, 0, flush())
	r.does("lock 0 read 0 call", "read 0 load 6")
	slow.does("store 6 fill 1 a")
	r.does("load 6")
	b.wantKeys("a", "x")
	r.does("read 0 load 6", "store 6 write 0", "load 0")
	b.whole(3, 0, tick(1), number(times()[1]+1))
	r.does("load 0", "load 0", "store 0 delete 1 a", "unlock 0")
	slow.does(countsAccept...)
	r.does("lock 1 read 1", "read 1 load 7", "store 7 write 1", "load 0", "store 0 delete 1 x", "unlock 1 return 0 2")
	b.wantKeys()
}

// P21.1: a collect and a flush wait for each stripe.
func TestSweepWaits(t *testing.T) {
	for _, x := range []api.Op{collect(), flush()} {
		b := newBench(t)
		p, q := b.begin(1, 0, b.pairs["a"].sent(plain)), b.begin(2, 0, b.pairs["x"].sent(plain))
		p.does("lock 0 read 0 call")
		r := b.begin(3, 0, x)
		r.waits()
		q.does("lock 1 read 1 call")
		p.does("load 0 read 2 act 4 a")
		r.waits()
		p.does("unlock 0")
		r.does("lock 0 read 0 call")
		// It does not yet wait for the other stripe.
		r.does("unlock 0 waits")
		r.waits()
		q.does("load 0 read 2 act 4 x")
		r.waits()
		q.does("unlock 1")
		r.does("lock 1 read 1", "unlock 1 return 0 0")
	}
}

// P21.1: packets wait for a collect and a flush that are in their stripe.
func TestSweepHolds(t *testing.T) {
	b := opened(t)
	r, p, q := b.begin(1, 0, flush()), b.begin(2, 0, b.pairs["b"].sent(opening)), b.begin(3, 0, b.pairs["y"].sent(opening))
	for _, line := range []string{"lock 0 read 0 call", "read 0 load 6", "store 6 write 0", "load 0", "store 0 delete 1 a"} {
		r.does(line)
		p.waits()
		if q.Blocked() {
			t.Errorf("%q: the other stripe is blocked", line)
		}
	}
	r.does("unlock 0")
	for _, line := range []string{"lock 1 read 1", "read 1 load 7", "store 7 write 1", "load 0", "store 0 delete 1 x"} {
		r.does(line)
		q.waits()
		if p.Blocked() {
			t.Errorf("%q: the other stripe is blocked", line)
		}
	}
	r.does("unlock 1 return 0 2")
	p.does("lock 0 read 0 call", "load 0 read 2", "store 0 write 0 act 1 b", "unlock 0")
	q.does("lock 1 read 1 call", "load 0 read 2", "store 0 write 1 act 1 y", "unlock 1")
	p.does(countsAccept...)
	q.does(countsAccept...)
}
