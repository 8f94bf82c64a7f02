package world

import (
	"testing"

	"mantlet/api"
)

// P22.1: the next op of a thread begins when the previous one is over: the points of its ops follow one another, each with its number.
func TestNextOp(t *testing.T) {
	w := start(t, config(1, 3), open(), []api.Op{unknown(), tick(3), stat(2), tick(4)}, []api.Op{tick(1), unknown()})
	wantPicks(t, w, 0)
	points := []string{"0.0 call 0 0", "0.0 return 0 0"}
	wantPoints(t, w, points...)
	wantPicks(t, w, 0)
	points = append(points, "0.1 call 0 0")
	wantPoints(t, w, points...)
	wantPicks(t, w, 1, 1)
	points = append(points, "1.0 call 0 0", "1.0 tick 0 1", "1.0 return 0 1")
	wantPoints(t, w, points...)
	// The clock has changed since the load.
	wantPicks(t, w, 0)
	wantPoints(t, w, points...)
	wantReplies(t, w, 0, failed(api.ErrArg))
	wantPicks(t, w, 0, 0)
	points = append(points, "0.1 tick 0 3", "0.1 return 0 4")
	wantPoints(t, w, points...)
	wantPicks(t, w, 1, 0)
	points = append(points, "1.1 call 0 0", "1.1 return 0 0", "0.2 call 0 0", "0.2 stat 2 0", "0.2 return 0 0")
	wantPoints(t, w, points...)
	wantPicks(t, w, 0, 0)
	wantPoints(t, w, append(points, "0.3 call 0 0", "0.3 tick 0 4", "0.3 return 0 8")...)
	wantThreads(t, w, "over", "over")
	wantReplies(t, w, 0, failed(api.ErrArg), number(4), number(0), number(8))
	wantReplies(t, w, 1, number(1), failed(api.ErrArg))
}

// P22.1: an op of one thread may have the number and the content of one of another thread.
func TestThreadsInPoints(t *testing.T) {
	w := start(t, config(1, 3), open(), nil, []api.Op{unknown(), unknown()}, []api.Op{unknown()}, nil, []api.Op{unknown(), unknown()})
	wantPicks(t, w, 4, 1, 2, 1, 4)
	wantPoints(t, w,
		"4.0 call 0 0", "4.0 return 0 0", "1.0 call 0 0", "1.0 return 0 0", "2.0 call 0 0", "2.0 return 0 0",
		"1.1 call 0 0", "1.1 return 0 0", "4.1 call 0 0", "4.1 return 0 0")
	wantThreads(t, w, "over", "over", "over", "over", "over")
}

// P22.1: a packet of a later op is judged by what was done before it, by its own thread and by others.
func TestLaterPackets(t *testing.T) {
	a, b := somePair(api.TCP, 2, 0, 0, false), somePair(api.UDP, 2, 1, 1, true)
	w := start(t, config(2, 1), []api.Rule{only(true, api.TCP)},
		[]api.Op{a.replied(answer), a.sent(opening), a.sent(plain), a.sent(plain), a.sent(opening)},
		[]api.Op{a.replied(answer), b.sent(0), b.sent(0), b.sent(0)},
		[]api.Op{swap(openText), flush(), tick(99), tick(1), swap(shutText)})
	whole := func(thread int, want api.Reply) {
		t.Helper()
		for n := len(w.Replies(thread)); len(w.Replies(thread)) == n; {
			wantPicks(t, w, thread)
		}
		if y := w.Replies(thread); y[len(y)-1] != want {
			t.Fatalf("thread %d: reply %v, want %v", thread, y[len(y)-1], want)
		}
	}
	whole(0, verdict(api.Invalid)) // there is no flow yet
	whole(0, verdict(api.Accept))
	whole(0, verdict(api.Invalid)) // it has not been answered
	whole(1, verdict(api.Accept))
	whole(0, verdict(api.Accept)) // now it has been
	wantState(t, w, api.Gate{Count: 1}, [5]uint64{3, 0, 0, 2, 0}, a.key())
	whole(1, verdict(api.Denied))
	whole(2, number(1)) // rules that accept all
	whole(1, verdict(api.Full))
	whole(2, number(1)) // the flow is flushed
	whole(1, verdict(api.Accept))
	whole(2, number(99))
	whole(2, number(100)) // the flow of b is over, and that of a can take its place only when it is gone
	whole(0, verdict(api.Full))
	whole(2, number(2))
	wantState(t, w, api.Gate{Version: 2, Count: 1, Clock: 100}, [5]uint64{4, 0, 1, 2, 2}, b.key())
	wantThreads(t, w, "over", "over", "over")
	wantReplies(t, w, 0, verdict(api.Invalid), verdict(api.Accept), verdict(api.Invalid), verdict(api.Accept), verdict(api.Full))
	wantReplies(t, w, 1, verdict(api.Accept), verdict(api.Denied), verdict(api.Full), verdict(api.Accept))
	wantReplies(t, w, 2, number(1), number(1), number(99), number(100), number(2))
}

// P22.1: the rules of version 0 are those that New was given, and the config is, too.
func TestConfigAndRules(t *testing.T) {
	a, b := somePair(api.TCP, 4, 3, 0, false), somePair(api.UDP, 4, 1, 0, false)
	c := config(4, 1)
	c.Times[api.SynSent] = 7
	w := start(t, c, []api.Rule{only(true, api.TCP)}, []api.Op{b.sent(0), a.sent(opening), tick(6), collect(), tick(1), collect()})
	finish(t, w)
	wantReplies(t, w, 0, verdict(api.Denied), verdict(api.Accept), number(6), number(0), number(7), number(1))
	wantPrefix(t, w,
		"0 lock 1", "0 read 1", "0 load 0", "0 read 4", "0 unlock 1", "0 load 3", "0 store 3", "0 lock 3", "0 read 3", "0 load 0", "0 read 4", "0 store 0", "0 write 3", "0 unlock 3", "0 load 1", "0 store 1")
}

// DOC.md's example: two threads process the two directions of one flow: each one's Swap of the flow's word succeeds, or it starts again with a Load.
func TestTwoDirections(t *testing.T) {
	a := somePair(api.TCP, 1, 0, 0, false)
	name := " 5-9"
	w := start(t, config(1, 3), open(), []api.Op{a.sent(opening), a.sent(opening)}, []api.Op{a.replied(answer)})
	wantPicks(t, w, 0, 0, 0, 0, 0, 0)
	// Both find the flow and load its word and the gate.
	wantPicks(t, w, 0, 0, 1, 1, 1, 1, 0, 0)
	points := []string{"0.0 call 0 0", "0.0 act 1 0" + name, "0.0 count 1 0", "0.0 return 1 0", "0.1 call 0 0", "1.0 call 0 0"}
	wantPoints(t, w, points...)
	wantState(t, w, api.Gate{Count: 1}, [5]uint64{1}, a.key())
	// The Swap of thread 0 succeeds, so that the flow is still opened; the other one begins again with a Load.
	wantPicks(t, w, 0, 1)
	points = append(points, "0.1 act 1 0"+name)
	wantPoints(t, w, points...)
	wantPicks(t, w, 1, 1, 1)
	points = append(points, "1.0 act 1 0"+name)
	wantPoints(t, w, points...)
	wantPicks(t, w, 1, 1, 0, 0)
	wantPoints(t, w, append(points, "1.0 count 1 0", "1.0 return 1 0", "0.1 count 1 0", "0.1 return 1 0")...)
	wantThreads(t, w, "over", "over")
	wantState(t, w, api.Gate{Count: 1}, [5]uint64{3}, a.key())
	wantLog(t, w,
		"0 lock 0", "0 read 0", "0 load 0", "0 read 1", "0 store 0", "0 write 0", "0 unlock 0", "0 load 1", "0 store 1",
		"0 lock 0", "0 read 0", "0 unlock 0", "1 lock 0", "1 read 0", "1 unlock 0", "1 load 6", "1 load 0", "0 load 6", "0 load 0",
		"0 store 6", "1 load 6", "1 load 6", "1 load 0", "1 store 6", "1 load 1", "1 store 1", "0 load 1", "0 store 1")
}

// P22.2: several threads that meet at the gate, at the counters, at a stripe and at the mutex of the rules.
func TestSeveralThreads(t *testing.T) {
	a, b := somePair(api.UDP, 2, 0, 0, false), somePair(api.UDP, 2, 1, 0, false)
	w := start(t, config(2, 3), open(), []api.Op{a.sent(0)}, []api.Op{b.sent(0)}, []api.Op{swap(shutText), stat(1)}, []api.Op{a.replied(0)})
	// Both packets are to be admitted by the same gate, and the swap comes first.
	if n := w.Run([]int{0, 1, 3, 0, 1, 2, 2, 2, 0, 1, 3}); n != 9 {
		t.Fatalf("%d acts", n)
	}
	wantThreads(t, w, "ready", "ready", "ready", "waits")
	wantState(t, w, api.Gate{Version: 1}, [5]uint64{})
	// Now the rules of version 1 are read, which deny both.
	if n := w.Run([]int{0, 1, 0, 3, 1, 0, 1, 0, 1}); n != 9 {
		t.Fatalf("%d acts", n)
	}
	wantThreads(t, w, "over", "ready", "ready", "ready")
	wantState(t, w, api.Gate{Version: 1}, [5]uint64{0, 0, 1, 0, 0})
	finish(t, w)
	wantState(t, w, api.Gate{Version: 1}, [5]uint64{0, 0, 3, 0, 0})
	for _, i := range []int{0, 1, 3} {
		wantReplies(t, w, i, verdict(api.Denied))
	}
	wantReplies(t, w, 2, number(1), number(0))
	wantPrefix(t, w,
		"0 lock 0", "0 read 0", "1 lock 1", "1 read 1", "0 load 0", "0 read 2", "1 load 0", "1 read 2",
		"2 lock 2", "2 load 0", "2 write 3", "2 store 0", "0 load 0", "1 load 0",
		"0 load 0", "0 read 3", "1 load 0", "1 read 3", "0 unlock 0", "3 lock 0", "3 read 0", "1 unlock 1", "0 load 3", "1 load 3", "0 store 3", "1 load 3")
}

// P22.1, P22.2: two worlds side by side share nothing.
func TestTwoWorlds(t *testing.T) {
	picks := somePicks()
	alone := func(stripes int) answers {
		w := start(t, config(stripes, 3), open(), busy()...)
		w.Run(picks)
		return ask(w)
	}
	one, two := start(t, config(1, 3), open(), busy()...), start(t, config(2, 3), open(), busy()...)
	still := start(t, config(1, 3), open(), busy()...)
	if one.Shared() == two.Shared() || one.Shared() == still.Shared() {
		t.Fatal("the worlds share their state")
	}
	for _, i := range picks {
		before := ask(two)
		one.Pick(i)
		if !ask(two).same(before) {
			t.Fatal("a pick in one world changes the other one")
		}
		two.Pick(i)
	}
	if !ask(one).same(alone(1)) || !ask(two).same(alone(2)) {
		t.Error("the worlds tell other things than alone")
	}
	wantNothing(t, still)
	wantThreads(t, still, "ready", "ready", "over", "ready")
}
