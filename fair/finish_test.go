package fair

import (
	"math"
	"slices"
	"testing"

	"mantlet/api"
	"mantlet/world"
)

// P25.2: nil has no rounds, and is not done.
func TestFinishNil(t *testing.T) {
	for _, most := range append(edges(), -1, 0, 1, 2, 5) {
		wantFinish(t, nil, most, 0, false)
	}
	// A world that New has not made has no threads.
	wantFinish(t, new(world.World), 3, 0, true)
}

// P25.2: the chapter's example.
func TestFinishExample(t *testing.T) {
	for _, most := range []int{2, 3, 4, 100, math.MaxInt} {
		w := start(t, config(1, 1), nil, []api.Op{tick(5)})
		wantFinish(t, w, most, 2, true)
		wantLog(t, w, "0 load 0", "0 store 0")
	}
	w := start(t, config(1, 1), nil, []api.Op{tick(5)})
	wantFinish(t, w, 1, 1, false)
	wantLog(t, w, "0 load 0")
	wantFinish(t, w, 1, 1, true)
	wantFinish(t, w, 1, 0, true)
}

// P25.2: a world that is done has no further rounds: one without threads, one whose threads have no ops, and one whose ops are over.
func TestFinishDone(t *testing.T) {
	over := start(t, config(2, 3), open(), []api.Op{tick(5), unknown()}, []api.Op{flush()}, nil)
	for !over.Done() {
		over.Run([]int{1, 0})
	}
	accesses := len(over.Shared().Log())
	for _, w := range []*world.World{start(t, config(2, 3), open()), start(t, config(2, 3), nil, nil, []api.Op{}, nil), over} {
		for _, most := range append(edges(), -1, 0, 1, 2, 5) {
			wantFinish(t, w, most, 0, true)
		}
	}
	if n := len(over.Shared().Log()); n != accesses {
		t.Errorf("%d accesses, want %d", n, accesses)
	}
}

// P25.2: without rounds to perform, nothing happens.
func TestFinishNoRounds(t *testing.T) {
	w := start(t, config(2, 3), open(), []api.Op{tick(5)}, []api.Op{unknown()})
	w.Pick(0)
	for _, most := range append(edges(), -3, -2, -1, 0) {
		if most <= 0 {
			wantFinish(t, w, most, 0, false)
		}
	}
	wantLog(t, w, "0 load 0")
	if w.Over(1) {
		t.Error("an act was performed")
	}
}

// P25.2: each round picks each thread once, from 0 on; what it does is written out.
func TestFinishRounds(t *testing.T) {
	// In the second round thread 0 overtakes both others, and in the fourth thread 1 the last one.
	w := start(t, config(2, 3), open(), []api.Op{tick(1)}, []api.Op{tick(2)}, []api.Op{tick(4)})
	want := []string{"0 load 0", "1 load 0", "2 load 0", "0 store 0", "1 load 0", "2 load 0", "1 load 0", "2 load 0", "1 store 0", "2 load 0", "2 load 0", "2 store 0"}
	for i, n := range []int{3, 6, 8, 10, 11, 12} {
		wantFinish(t, w, 1, 1, i == 5)
		wantLog(t, w, want[:n]...)
	}
	for i, n := range []int{1, 3, 7} {
		if y := w.Replies(i); len(y) != 1 || y[0].N != n {
			t.Errorf("thread %d: %v", i, y)
		}
	}
	w = start(t, config(2, 3), open(), []api.Op{tick(1)}, []api.Op{tick(2)}, []api.Op{tick(4)})
	wantFinish(t, w, 100, 6, true)
	wantLog(t, w, want...)
}

// P25.2: an op of one act each in each thread: all are done after the greatest number of ops, and in the order of the threads.
func TestFinishOrder(t *testing.T) {
	for threads := 1; threads <= 64; threads++ {
		list := make([][]api.Op, threads)
		for i := range list {
			list[i] = slices.Repeat([]api.Op{stat(1)}, i%3+1)
		}
		w := start(t, config(1, 1), nil, list...)
		wantFinish(t, w, 1000, min(threads, 3), true)
		n := 0
		log := w.Shared().Log()
		for round := range 3 {
			for i := range list {
				if i%3 < round {
					continue
				}
				if log[n] != (api.Access{Thread: i, Kind: api.MemLoad, Place: 3}) {
					t.Fatalf("%d threads, access %d: %v, want thread %d", threads, n, log[n], i)
				}
				n++
			}
		}
		if len(log) != n {
			t.Fatalf("%d accesses, want %d", len(log), n)
		}
	}
}

// P25.2: threads that wait are picked, too, and rounds in which some threads wait or are over count.
func TestFinishWaiting(t *testing.T) {
	w := start(t, config(1, 3), open(), []api.Op{flush()}, nil, []api.Op{flush(), tick(1)}, []api.Op{stat(1)})
	// Thread 0 unlocks in the second round, ahead of the pick of thread 2, which has waited in the first one.
	wantFinish(t, w, 1, 1, false)
	wantLog(t, w, "0 lock 0", "0 read 0", "3 load 1")
	if !w.Waits(2) || w.Over(0) || !w.Over(3) {
		t.Fatal("thread 2 does not wait for thread 0")
	}
	wantFinish(t, w, 1, 1, false)
	if w.Waits(2) || !w.Over(0) {
		t.Fatal("thread 2 has not locked in the second round")
	}
	wantFinish(t, w, 100, 3, true)
	wantLog(t, w, "0 lock 0", "0 read 0", "3 load 1", "0 unlock 0", "2 lock 0", "2 read 0", "2 unlock 0", "2 load 0", "2 store 0")
	// A thread waits for one with a higher number.
	w = start(t, config(1, 3), open(), []api.Op{flush()}, []api.Op{flush()})
	w.Pick(1)
	wantFinish(t, w, 1, 1, false)
	wantLog(t, w, "1 lock 0", "1 read 0", "1 unlock 0")
	wantFinish(t, w, 100, 2, true)
}

// P25.2: behind arbitrary picks each thread is picked from 0 on again, whoever was picked last.
func TestFinishBehindPicks(t *testing.T) {
	for last := range 3 {
		w := start(t, config(1, 1), nil, []api.Op{tick(1)}, []api.Op{tick(1)}, []api.Op{tick(1)})
		w.Pick(last)
		wantFinish(t, w, 1, 1, false)
		want := [][]string{
			{"0 load 0", "0 store 0", "1 load 0", "2 load 0"},
			{"1 load 0", "0 load 0", "1 store 0", "2 load 0"},
			{"2 load 0", "0 load 0", "1 load 0", "2 store 0"},
		}
		wantLog(t, w, want[last]...)
	}
}

// some returns a world of threads that meet, always the same one.
func some(t *testing.T) *world.World {
	return start(t, config(2, 3), open(),
		[]api.Op{datagram(0, false), tick(2), datagram(1, false), flush(), stat(1)},
		[]api.Op{datagram(0, false), datagram(0, true), swap(shutText), tick(5), datagram(1, true)},
		nil,
		[]api.Op{segment(2, api.Syn, false), segment(2, api.Syn|api.Ack, true), collect(), broken(), datagram(3, false)},
		[]api.Op{unknown(), flush()},
	)
}

// P25.2: most of each size, at once and in parts, against the second implementation.
func TestFinishMost(t *testing.T) {
	whole := some(t)
	total, _ := slow(t, whole, math.MaxInt)
	if total < 20 {
		t.Fatalf("only %d rounds: this tells little", total)
	}
	for most := range total + 4 {
		w, other := some(t), some(t)
		rounds, done := slow(t, other, most)
		if rounds != min(most, total) || done != (most >= total) {
			t.Fatalf("%d rounds of at most %d, done %v", rounds, most, done)
		}
		wantFinish(t, w, most, rounds, done)
		wantSame(t, w, other)
		wantFinish(t, w, total+4, total-rounds, true)
		wantSame(t, w, whole)
	}
	for part := 1; part < 6; part++ {
		w, n := some(t), 0
		for !w.Done() {
			wantFinish(t, w, part, min(part, total-n), n+part >= total)
			n += part
		}
		wantSame(t, w, whole)
	}
	for _, most := range edges() {
		if most >= total {
			w := some(t)
			wantFinish(t, w, most, total, true)
			wantSame(t, w, whole)
		}
	}
}

// P25.2 (R7): a mutex that somebody else holds is never unlocked: all rounds are performed, however many, and change nothing any more. Later the world can be done.
func TestFinishStuck(t *testing.T) {
	for _, first := range []int{0, 1, 2} {
		threads := [][]api.Op{{flush()}, {flush(), tick(1)}, {datagram(0, false)}}
		threads[first] = append([]api.Op{tick(3), stat(1)}, threads[first]...)
		w, other := start(t, config(1, 3), open(), threads...), start(t, config(1, 3), open(), threads...)
		r, q := outsider(t, w, flush()), outsider(t, other, flush())
		for _, most := range []int{0, 1, 1, 1, 2, 5, 1000, math.MaxInt32, math.MaxInt - 1, math.MaxInt} {
			wantFinish(t, w, most, most, false)
			slow(t, other, min(most, 10))
			wantSame(t, w, other)
		}
		if n := len(w.Shared().Log()); n != 2+3 || !w.Waits(0) || !w.Waits(1) || !w.Waits(2) {
			t.Fatalf("%d accesses, want those of the outsider, a tick and a stat; the others wait", n)
		}
		r.Step()
		q.Step()
		rounds, done := slow(t, other, 1000)
		wantFinish(t, w, math.MaxInt, rounds, done)
		wantSame(t, w, other)
		if !done {
			t.Fatal("not done")
		}
	}
}

// P25.2: as long as one thread proceeds, the rounds go on, whichever threads wait; if those then wait for ever, all rounds are performed.
func TestFinishPartlyStuck(t *testing.T) {
	for free := range 4 {
		threads := [][]api.Op{{flush()}, {collect()}, {datagram(0, false)}, {flush()}}
		threads[free] = slices.Repeat([]api.Op{tick(1)}, 20)
		w := start(t, config(1, 3), open(), threads...)
		r := outsider(t, w, flush())
		wantFinish(t, w, 39, 39, false)
		if w.Over(free) {
			t.Fatal("20 ticks have fewer than 40 acts")
		}
		wantFinish(t, w, 1, 1, false)
		if !w.Over(free) || w.Shared().Gate().Clock != 20 {
			t.Fatal("20 ticks have more than 40 acts")
		}
		wantFinish(t, w, 7, 7, false)
		wantFinish(t, w, math.MaxInt, math.MaxInt, false)
		r.Step()
		if _, done := Finish(w, 1000); !done {
			t.Fatal("not done")
		}
	}
}

// P25.2 (R5): worlds are finished one beside the other without a difference.
func TestFinishSameAgain(t *testing.T) {
	a, b, alone := some(t), some(t), some(t)
	total, _ := Finish(alone, 1000)
	for n := range total {
		wantFinish(t, a, 1, 1, n+1 == total)
		if n%3 == 0 {
			Finish(b, 2)
		}
	}
	Finish(b, 1000)
	wantSame(t, a, alone)
	wantSame(t, b, alone)
}
