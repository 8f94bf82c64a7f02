package world

import (
	"math"
	"slices"
	"testing"

	"mantlet/api"
)

// P22.2: a thread that does not exist is over, does not wait, has no replies, and a pick of it does nothing.
func TestNobody(t *testing.T) {
	w := start(t, config(1, 3), open(), []api.Op{flush(), tick(1)}, []api.Op{flush()}, []api.Op{tick(2)})
	wrong := append(edges(), -65, -64, -4, -3, -2, -1, 3, 4, 5, 63)
	check := func() {
		t.Helper()
		before := ask(w)
		for _, i := range wrong {
			if w.Pick(i) || !w.Over(i) || w.Waits(i) || w.Replies(i) != nil || w.Run([]int{i, i}) != 0 {
				t.Fatalf("thread %d exists", i)
			}
		}
		if w.Run(wrong) != 0 || !ask(w).same(before) {
			t.Fatal("a thread that does not exist has changed something")
		}
	}
	check()
	wantNothing(t, w)
	wantPicks(t, w, 0)
	wantThreads(t, w, "ready", "waits", "ready")
	check()
	wantPicks(t, w, 0, 0, 2)
	check()
	finish(t, w)
	wantThreads(t, w, "over", "over", "over")
	check()
}

// P22.2: the acts of one thread: each pick performs one, and reports it, until the thread is over.
func TestPickOneThread(t *testing.T) {
	w := start(t, config(2, 3), open(), []api.Op{tick(4), flush(), stat(9), stat(3)})
	var log []string
	for i, accesses := range [][]string{
		{"0 load 0"}, {"0 store 0"},
		{"0 lock 0", "0 read 0"}, {"0 unlock 0"}, {"0 lock 1", "0 read 1"}, {"0 unlock 1"},
		{}, {"0 load 3"},
	} {
		wantThreads(t, w, "ready")
		wantPicks(t, w, 0)
		log = append(log, accesses...)
		wantLog(t, w, log...)
		replies := []api.Reply{number(4), {}, failed(api.ErrArg), {}}
		wantReplies(t, w, 0, replies[:[]int{0, 1, 1, 1, 1, 2, 3, 4}[i]]...)
	}
	wantThreads(t, w, "over")
	wantPoints(t, w,
		"0.0 call 0 0", "0.0 tick 0 4", "0.0 return 0 4",
		"0.1 call 0 0", "0.1 return 0 0",
		"0.2 call 0 0", "0.2 return 0 0",
		"0.3 call 0 0", "0.3 stat 3 0", "0.3 return 0 0")
	wantLog(t, w, log...)
}

// P22.2: a thread that waits does nothing, until the mutex is free; then it goes on.
func TestPickWaits(t *testing.T) {
	w := start(t, config(2, 3), open(), []api.Op{flush()}, []api.Op{collect(), tick(1)}, []api.Op{tick(3)})
	wantThreads(t, w, "ready", "ready", "ready")
	wantPicks(t, w, 0)
	wantThreads(t, w, "ready", "waits", "ready")
	wantPicks(t, w, 2)
	wantThreads(t, w, "ready", "waits", "ready")
	wantPicks(t, w, 0)
	wantThreads(t, w, "ready", "ready", "ready")
	// Both may lock: thread 0 stripe 1, and thread 1 stripe 0.
	wantPicks(t, w, 0)
	wantThreads(t, w, "ready", "ready", "ready")
	wantPicks(t, w, 1)
	wantThreads(t, w, "ready", "ready", "ready")
	// Behind stripe 0, thread 1 waits for stripe 1.
	wantPicks(t, w, 1)
	wantThreads(t, w, "ready", "waits", "ready")
	wantPicks(t, w, 0)
	wantThreads(t, w, "over", "ready", "ready")
	wantPicks(t, w, 1, 1)
	wantThreads(t, w, "over", "ready", "ready")
	wantReplies(t, w, 1, number(0))
	wantPicks(t, w, 2, 1, 1)
	wantThreads(t, w, "over", "over", "over")
	wantPoints(t, w,
		"0.0 call 0 0", "2.0 call 0 0", "1.0 call 0 0", "0.0 return 0 0", "1.0 return 0 0",
		"2.0 tick 0 3", "2.0 return 0 3", "1.1 call 0 0", "1.1 tick 0 1", "1.1 return 0 4")
	wantLog(t, w,
		"0 lock 0", "0 read 0", "2 load 0", "0 unlock 0", "0 lock 1", "0 read 1", "1 lock 0", "1 read 0", "1 unlock 0", "0 unlock 1",
		"1 lock 1", "1 read 1", "1 unlock 1", "2 store 0", "1 load 0", "1 store 0")
}

// P22.2: Waits of a thread whose first op has not begun, and of one between two ops, is that of the op that comes next.
func TestWaitsOfNextOp(t *testing.T) {
	w := start(t, config(1, 3), open(), []api.Op{flush()}, []api.Op{tick(1), flush(), tick(1)}, []api.Op{unknown(), collect(), unknown()}, []api.Op{flush()})
	wantThreads(t, w, "ready", "ready", "ready", "ready")
	wantPicks(t, w, 0)
	wantThreads(t, w, "ready", "ready", "ready", "waits")
	wantPicks(t, w, 1)
	wantThreads(t, w, "ready", "ready", "ready", "waits")
	wantPicks(t, w, 1)
	wantThreads(t, w, "ready", "waits", "ready", "waits")
	wantPicks(t, w, 2)
	wantThreads(t, w, "ready", "waits", "waits", "waits")
	points := []string{"0.0 call 0 0", "1.0 call 0 0", "1.0 tick 0 1", "1.0 return 0 1", "2.0 call 0 0", "2.0 return 0 0"}
	wantPoints(t, w, points...)
	wantPicks(t, w, 0)
	wantThreads(t, w, "over", "ready", "ready", "ready")
	wantPicks(t, w, 2)
	wantThreads(t, w, "over", "waits", "ready", "waits")
	wantPicks(t, w, 2)
	wantThreads(t, w, "over", "ready", "ready", "ready")
	wantPicks(t, w, 3)
	wantThreads(t, w, "over", "waits", "ready", "ready")
	wantPicks(t, w, 2)
	wantThreads(t, w, "over", "waits", "over", "ready")
	wantPicks(t, w, 3)
	wantThreads(t, w, "over", "ready", "over", "over")
	wantPicks(t, w, 1, 1)
	wantThreads(t, w, "over", "ready", "over", "over")
	wantPicks(t, w, 1, 1)
	wantThreads(t, w, "over", "over", "over", "over")
	wantReplies(t, w, 1, number(1), number(0), number(2))
	wantReplies(t, w, 2, failed(api.ErrArg), number(0), failed(api.ErrArg))
}

// P22.2: swaps wait for the mutex of the rules, and packets for that of their stripe.
func TestWaitsForMutex(t *testing.T) {
	a, b := somePair(api.UDP, 2, 0, 0, false), somePair(api.UDP, 2, 1, 0, false)
	w := start(t, config(2, 3), open(), []api.Op{swap(shutText)}, []api.Op{swap(openText)}, []api.Op{a.sent(0)}, []api.Op{b.sent(0)}, []api.Op{flush()}, []api.Op{swap("?")}, []api.Op{broken()})
	wantPicks(t, w, 1)
	wantThreads(t, w, "waits", "ready", "ready", "ready", "ready", "ready", "ready")
	wantPicks(t, w, 2)
	wantThreads(t, w, "waits", "ready", "ready", "ready", "waits", "ready", "ready")
	wantPicks(t, w, 3)
	wantThreads(t, w, "waits", "ready", "ready", "ready", "waits", "ready", "ready")
	wantPicks(t, w, 5, 6, 6)
	wantThreads(t, w, "waits", "ready", "ready", "ready", "waits", "over", "over")
	wantPicks(t, w, 2, 2, 2)
	wantThreads(t, w, "waits", "ready", "ready", "ready", "ready", "over", "over")
	wantPicks(t, w, 4, 4, 4, 4, 4, 4)
	wantThreads(t, w, "waits", "ready", "ready", "ready", "waits", "over", "over")
	wantPicks(t, w, 1, 1, 1)
	wantThreads(t, w, "ready", "over", "ready", "ready", "waits", "over", "over")
	finish(t, w)
	wantReplies(t, w, 0, number(2))
	wantReplies(t, w, 1, number(1))
}

// P22.2: who waits goes on when an op that is not the world's frees the mutex.
func TestWaitsForOutsider(t *testing.T) {
	w := start(t, config(1, 3), open(), []api.Op{flush()}, []api.Op{tick(1), collect()}, nil)
	r := outsider(t, w, flush())
	if !r.Step() {
		t.Fatal("no act")
	}
	wantThreads(t, w, "waits", "ready", "over")
	wantPicks(t, w, 1, 1)
	wantThreads(t, w, "waits", "waits", "over")
	if !r.Step() {
		t.Fatal("no act")
	}
	wantThreads(t, w, "ready", "ready", "over")
	finish(t, w)
	// And the other way round.
	w = start(t, config(1, 3), open(), []api.Op{flush()})
	wantPicks(t, w, 0)
	if r := outsider(t, w, collect()); !r.Blocked() || r.Step() {
		t.Error("an outsider need not wait")
	}
}

// P22.2: no picks, and picks of threads that do not exist, wait or are over: only the acts are counted.
func TestRun(t *testing.T) {
	w := start(t, config(1, 3), open(), []api.Op{flush(), tick(1)}, []api.Op{flush()}, nil)
	for _, picks := range [][]int{nil, {}, make([]int, 0, 5), {2, 2}, {-1, 3, math.MinInt, math.MaxInt}} {
		if n := w.Run(picks); n != 0 {
			t.Errorf("Run(%v) = %d", picks, n)
		}
	}
	wantNothing(t, w)
	for _, x := range []struct {
		picks []int
		want  int
	}{
		{[]int{0}, 1},
		{[]int{1, 2, 1, 3, 1}, 0},
		{[]int{1, 0, 1, 0, 2}, 3},
		{[]int{0}, 1},
		{[]int{-1, 0, 0, 1, 1, 1}, 1},
		{[]int{0, 1, 2}, 0},
	} {
		if n := w.Run(x.picks); n != x.want {
			t.Errorf("Run(%v) = %d, want %d", x.picks, n, x.want)
		}
	}
	wantThreads(t, w, "over", "over", "over")
	wantReplies(t, w, 0, number(0), number(1))
	wantReplies(t, w, 1, number(0))
}

// busy returns the threads of a world whose picks do all kinds of things.
func busy() [][]api.Op {
	a, b := somePair(api.TCP, 2, 0, 0, false), somePair(api.UDP, 2, 1, 0, true)
	return [][]api.Op{
		{a.sent(opening), tick(3), a.sent(plain), collect()},
		{b.sent(0), a.replied(answer), b.replied(0)},
		nil,
		{flush(), swap(shutText), b.sent(0), unknown(), stat(3)},
	}
}

// somePicks returns picks of the threads of busy, also of one that does not exist.
func somePicks() []int {
	var list []int
	for i := range 150 {
		list = append(list, i*i*i%17%6-1)
	}
	return list
}

// P22.2: picks in one list, in parts and one by one come to the same, and the list is not changed.
func TestRunInParts(t *testing.T) {
	picks := append(make([]int, 0, 200), somePicks()...)
	before := slices.Clone(picks[:200])
	whole := start(t, config(2, 3), open(), busy()...)
	total := whole.Run(picks)
	want := ask(whole)
	if total < 40 || total > 120 {
		t.Errorf("%d acts: this tells little", total)
	}
	for i := range picks {
		w := start(t, config(2, 3), open(), busy()...)
		if n := w.Run(picks[:i]) + w.Run(nil) + w.Run(picks[i:]); n != total || !ask(w).same(want) {
			t.Fatalf("cut behind %d picks: %d acts, want %d", i, n, total)
		}
	}
	w := start(t, config(2, 3), open(), busy()...)
	n := 0
	for _, i := range picks {
		if w.Pick(i) {
			n++
		}
	}
	if n != total || !ask(w).same(want) {
		t.Errorf("one by one: %d acts, want %d", n, total)
	}
	if !slices.Equal(picks[:200], before) {
		t.Error("the picks have changed")
	}
}

// P22.2: each pick performs one act at most: it locks, unlocks, loads or stores once, or not at all.
func TestPickPerformsOneAct(t *testing.T) {
	w := start(t, config(2, 3), open(), busy()...)
	log := w.Shared().Log()
	for n, i := range append(somePicks(), somePicks()...) {
		acted := w.Pick(i)
		added := w.Shared().Log()[len(log):]
		log = append(log, added...)
		acts := 0
		for _, a := range added {
			if a.Kind != api.MemRead && a.Kind != api.MemWrite {
				acts++
			}
			if a.Thread != i {
				t.Fatalf("pick %d of thread %d: access %v", n, i, a)
			}
		}
		if acts > 1 || acts == 1 && !acted {
			t.Fatalf("pick %d of thread %d: %v, accesses %v", n, i, acted, added)
		}
	}
	if !w.Done() {
		t.Error("not done: this tells little")
	}
}

// P22.2: the replies of the ops that are over only, in order, whatever other threads do.
func TestReplies(t *testing.T) {
	a := somePair(api.TCP, 2, 0, 0, false)
	w := start(t, config(2, 1), open(),
		[]api.Op{tick(7), swap("?"), a.sent(opening), broken(), stat(1)},
		[]api.Op{tick(2), flush()})
	wantReplies(t, w, 0)
	wantReplies(t, w, 1)
	want := []api.Reply{number(7), failed(api.ErrText), verdict(api.Accept), {E: api.ErrShort, Verdict: api.Malformed}, number(1)}
	acts := []int{2, 1, 6, 2, 1}
	for n, y := range want {
		for range acts[n] {
			wantReplies(t, w, 0, want[:n]...)
			wantPicks(t, w, 0)
		}
		wantReplies(t, w, 0, want[:n+1]...)
		wantReplies(t, w, 1)
		if list := w.Replies(0); list[n] != y {
			t.Errorf("reply %d is %v", n, list[n])
		}
	}
	wantPicks(t, w, 1)
	wantReplies(t, w, 1)
	wantPicks(t, w, 1)
	wantReplies(t, w, 1, number(9))
	finish(t, w)
	wantReplies(t, w, 1, number(9), number(1))
	wantReplies(t, w, 0, want...)
}

// P22.2 (R4): Replies returns a new list each time, with its spare capacity.
func TestRepliesAreNew(t *testing.T) {
	w := start(t, config(2, 3), open(), slices.Repeat([]api.Op{tick(1)}, 40), []api.Op{tick(0)})
	var want []api.Reply
	for n := range 40 {
		wantReplies(t, w, 0, want...)
		list := w.Replies(0)
		all := list[:cap(list)]
		for i := range all {
			all[i] = api.Reply{E: 99, N: 99}
		}
		wantReplies(t, w, 0, want...)
		wantPicks(t, w, 0, 0)
		for i, y := range all {
			if y != (api.Reply{E: 99, N: 99}) {
				t.Fatalf("behind op %d, reply %d of a list that was handed out has changed", n, i)
			}
		}
		want = append(want, number(n+1))
	}
	one, two := w.Replies(0), w.Replies(0)
	clear(one[:cap(one)])
	if !slices.Equal(two, want) {
		t.Error("two lists share their memory")
	}
}

// P22.2: Shared is the state that the threads share, the same one each time.
func TestShared(t *testing.T) {
	w := start(t, config(2, 3), open(), []api.Op{tick(1)}, []api.Op{tick(1)})
	s := w.Shared()
	for _, n := range []int{0, 0, 1, 1} {
		wantPicks(t, w, n)
		if w.Shared() != s {
			t.Fatal("another state")
		}
	}
	if s.Gate().Clock != 2 || len(s.Points()) != 6 {
		t.Errorf("gate %v, points %v", s.Gate(), s.Points())
	}
	// What is done to it is done to the world.
	for r := outsider(t, w, tick(5)); r.Step(); {
	}
	if w.Shared().Gate().Clock != 7 {
		t.Error("not the state of the world")
	}
}

// P22.1, P22.2: all methods on a nil world, and, beyond the document, on one that New did not make.
func TestNil(t *testing.T) {
	for _, w := range []*World{nil, new(World)} {
		for _, i := range append(edges(), -2, -1, 0, 1, 2) {
			if w.Pick(i) || w.Run([]int{i, i}) != 0 || !w.Over(i) || w.Waits(i) || w.Replies(i) != nil {
				t.Errorf("thread %d of no world", i)
			}
		}
		for _, picks := range [][]int{nil, {}, {0}, {0, 1, 2}} {
			if n := w.Run(picks); n != 0 {
				t.Errorf("Run(%v) = %d", picks, n)
			}
		}
		if !w.Done() || w.Threads() != 0 || w.Shared() != nil {
			t.Errorf("done %v, %d threads, shared %v", w.Done(), w.Threads(), w.Shared())
		}
	}
}

// The chapter's example: two ticks are done after four picks, if neither thread is picked between the two acts of the other; otherwise one has to begin again.
func TestExample(t *testing.T) {
	for _, x := range []struct {
		picks []int
		done  bool
	}{
		{[]int{0, 0, 1, 1}, true}, {[]int{1, 1, 0, 0}, true},
		{[]int{0, 1, 0, 1}, false}, {[]int{1, 0, 1, 0}, false}, {[]int{0, 1, 1, 0}, false}, {[]int{1, 0, 0, 1}, false},
	} {
		w := start(t, config(1, 1), nil, []api.Op{tick(5)}, []api.Op{tick(2)})
		if n := w.Run(x.picks[:3]); n != 3 || w.Done() {
			t.Errorf("%v: done before the last pick", x.picks)
		}
		if n := w.Run(x.picks[3:]); n != 1 || w.Done() != x.done {
			t.Errorf("%v: done: %v", x.picks, w.Done())
		}
		finish(t, w)
		if g := w.Shared().Gate(); g.Clock != 7 {
			t.Errorf("%v: clock %d", x.picks, g.Clock)
		}
		if n := len(w.Shared().Log()); (n == 4) != x.done || n > 6 {
			t.Errorf("%v: %d accesses", x.picks, n)
		}
	}
}
