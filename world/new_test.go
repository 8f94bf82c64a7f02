package world

import (
	"math"
	"slices"
	"testing"

	"mantlet/api"
	"mantlet/prog"
)

// wantNew fails the test unless New returns this error, and a world only without one.
func wantNew(t *testing.T, c api.Config, list []api.Rule, threads [][]api.Op, want api.Errno) {
	t.Helper()
	w, e := New(c, list, threads)
	if e != want || (w == nil) != (e != api.OK) {
		t.Fatalf("New(%v, %d rules, %d threads) = %v, %d, want %d", c, len(list), len(threads), w, e, want)
	}
	if w == nil {
		return
	}
	if w.Threads() != len(threads) || w.Shared() == nil {
		t.Fatalf("%d threads, want %d; shared %v", w.Threads(), len(threads), w.Shared())
	}
	for i, ops := range threads {
		if w.Over(i) != (len(ops) == 0) || w.Waits(i) {
			t.Fatalf("thread %d with %d ops: over %v, waits %v", i, len(ops), w.Over(i), w.Waits(i))
		}
	}
	wantNothing(t, w)
}

// either returns ErrMany if there are too many, and else the error.
func either(many bool, e api.Errno) api.Errno {
	if many {
		return api.ErrMany
	}
	return e
}

// refused is what chapter 21's New refuses or not.
type refused struct {
	c    api.Config
	list []api.Rule
	want api.Errno
}

// someRefused returns configs and rules that New of chapter 21 takes, and others with each of its errors, in this order.
func someRefused() []refused {
	bad := every(true)
	bad.Proto = 3
	return []refused{
		{config(2, 3), nil, api.OK},
		{config(2, 3), slices.Repeat(open(), 64), api.OK},
		{api.Config{}, nil, api.ErrArg},
		{config(3, 3), open(), api.ErrArg},
		{config(2, 0), open(), api.ErrArg},
		{config(2, 3), slices.Repeat(open(), 65), api.ErrMany},
		{config(0, 3), slices.Repeat(open(), 65), api.ErrArg},
		{config(2, 3), []api.Rule{every(true), bad}, api.ErrArg},
	}
}

// P22.1: 64 threads are not too many, and 65 are; this comes ahead of what is wrong with the config and the rules.
func TestNewManyThreads(t *testing.T) {
	for _, x := range someRefused() {
		for _, n := range []int{0, 1, 2, 3, 62, 63, 64, 65, 66, 127, 128, 129, 255, 256, 257, 320, 1000} {
			for _, ops := range [][]api.Op{nil, {}, {tick(1)}, {flush(), unknown()}} {
				wantNew(t, x.c, x.list, slices.Repeat([][]api.Op{ops}, n), either(n > 64, x.want))
			}
		}
	}
}

// P22.1: 256 ops are not too many for a thread, and 257 are, whichever thread it is; this comes ahead of what is wrong with the config and the rules.
func TestNewManyOps(t *testing.T) {
	for _, x := range someRefused() {
		for _, n := range []int{1, 255, 256, 257, 258, 511, 512, 513, 1000} {
			for _, threads := range []int{1, 2, 3, 10, 64} {
				for _, i := range []int{0, 1, threads / 2, threads - 2, threads - 1} {
					if i < 0 || i >= threads {
						continue
					}
					list := make([][]api.Op, threads)
					list[i] = slices.Repeat([]api.Op{tick(1)}, n)
					wantNew(t, x.c, x.list, list, either(n > 256, x.want))
				}
			}
		}
	}
}

// P22.1: the ops of all threads together may be more than 256.
func TestNewManyTogether(t *testing.T) {
	for _, x := range someRefused() {
		most := slices.Repeat([][]api.Op{slices.Repeat([]api.Op{unknown()}, 256)}, 64)
		wantNew(t, x.c, x.list, most, x.want)
		wantNew(t, x.c, x.list, append(most, nil), api.ErrMany)
		for _, i := range []int{0, 31, 63} {
			list := slices.Clone(most)
			list[i] = append(slices.Clone(list[i]), unknown())
			wantNew(t, x.c, x.list, list, api.ErrMany)
		}
		wantNew(t, x.c, x.list, slices.Repeat([][]api.Op{slices.Repeat([]api.Op{unknown()}, 257)}, 65), api.ErrMany)
	}
}

// P22.1: New with each error of chapter 21's New, alone and with others.
func TestNewErrors(t *testing.T) {
	bad, low := every(true), every(true)
	bad.Proto = 3
	low.SPort = api.Span{Low: 2, High: 1}
	full := slices.Repeat(open(), 64)
	for _, x := range []struct {
		stripes, limit int
		list           []api.Rule
		want           api.Errno
	}{
		{1, 1, nil, api.OK}, {4096, 4095, nil, api.OK}, {2, 1, open(), api.OK}, {64, 4094, full, api.OK},
		{0, 1, nil, api.ErrArg}, {-1, 1, nil, api.ErrArg}, {3, 1, nil, api.ErrArg}, {8192, 1, nil, api.ErrArg}, {4095, 1, nil, api.ErrArg},
		{math.MinInt, 1, nil, api.ErrArg}, {math.MaxInt, 1, nil, api.ErrArg}, {1 << 32, 1, nil, api.ErrArg},
		{1, 0, nil, api.ErrArg}, {1, -1, nil, api.ErrArg}, {1, 4096, nil, api.ErrArg}, {1, math.MinInt, nil, api.ErrArg}, {1, 1<<32 + 1, nil, api.ErrArg},
		{1, 1, append(slices.Clone(full), every(true)), api.ErrMany}, {1, 1, append(slices.Clone(full), bad), api.ErrMany},
		{1, 1, []api.Rule{bad}, api.ErrArg}, {1, 1, append(slices.Clone(full)[:63], low), api.ErrArg}, {1, 1, []api.Rule{low, every(true)}, api.ErrArg},
		{0, 1, append(slices.Clone(full), bad), api.ErrArg}, {1, 0, append(slices.Clone(full), every(true)), api.ErrArg},
	} {
		c := api.Config{Stripes: x.stripes, Cap: x.limit}
		for _, threads := range [][][]api.Op{nil, {nil}, {{tick(1)}, nil, {flush(), flush()}}} {
			wantNew(t, c, x.list, threads, x.want)
		}
		if _, e := prog.New(c, x.list); e != x.want {
			t.Errorf("New of chapter 21 returns %d, want %d", e, x.want)
		}
	}
}

// P22.1, P22.2: a world without threads is done, and has a shared state.
func TestNoThreads(t *testing.T) {
	for _, threads := range [][][]api.Op{nil, {}, make([][]api.Op, 0, 3)} {
		w := start(t, config(2, 3), open(), threads...)
		wantThreads(t, w)
		for _, i := range edges() {
			if w.Pick(i) || !w.Over(i) || w.Waits(i) || w.Replies(i) != nil {
				t.Errorf("thread %d", i)
			}
		}
		if n := w.Run([]int{0, 1, -1}); n != 0 {
			t.Errorf("Run = %d", n)
		}
		wantNothing(t, w)
		if r := outsider(t, w, tick(3)); !r.Step() || !r.Step() || w.Shared().Gate().Clock != 3 || !w.Done() {
			t.Error("the shared state does nothing")
		}
	}
}

// P22.1, P22.2: threads without ops are over, wherever they are.
func TestThreadsWithoutOps(t *testing.T) {
	w := start(t, config(2, 3), open(), nil, []api.Op{tick(1)}, []api.Op{}, nil, []api.Op{unknown()}, make([]api.Op, 0, 5))
	wantThreads(t, w, "over", "ready", "over", "over", "ready", "over")
	wantNothing(t, w)
	wantPicks(t, w, 4)
	wantThreads(t, w, "over", "ready", "over", "over", "over", "over")
	wantPicks(t, w, 1, 1)
	wantThreads(t, w, "over", "over", "over", "over", "over", "over")
	for i, want := range [][]api.Reply{nil, {number(1)}, nil, nil, {failed(api.ErrArg)}, nil} {
		wantReplies(t, w, i, want...)
	}
	wantThreads(t, start(t, config(2, 3), open(), nil, nil), "over", "over")
}

// P22.1: no act of any op has been performed behind New, not even of one that replies by its first act; and asking does not perform any.
func TestNothingPerformed(t *testing.T) {
	var alone [][]api.Op
	var want []string
	for _, x := range someOps() {
		alone, want = append(alone, []api.Op{x}), append(want, "ready")
	}
	w := start(t, config(2, 3), open(), alone...)
	for range 2 {
		wantNothing(t, w)
		wantThreads(t, w, want...)
	}
	for i, x := range someOps() {
		w := start(t, config(2, 3), nil, nil, append([]api.Op{x}, someOps()...))
		wantNothing(t, w)
		wantThreads(t, w, "over", "ready")
		if !w.Pick(1) || len(w.Shared().Points()) == 0 {
			t.Errorf("op %d has no first act", i)
		}
	}
}

// P22.1: the ops have the numbers of their threads and their own, also the last one of the most threads and ops.
func TestMost(t *testing.T) {
	w := start(t, config(2, 3), open(), slices.Repeat([][]api.Op{slices.Repeat([]api.Op{tick(1)}, 256)}, 64)...)
	for n := range 256 {
		for i := range 64 {
			if w.Over(i) || !w.Pick(i) || w.Over(i) || !w.Pick(i) || w.Over(i) != (n == 255) {
				t.Fatalf("op %d of thread %d", n, i)
			}
			if y := w.Replies(i); len(y) != n+1 || y[n] != number(64*n+i+1) {
				t.Fatalf("op %d of thread %d: replies %v", n, i, y)
			}
		}
	}
	if !w.Done() {
		t.Error("not done")
	}
	wantState(t, w, api.Gate{Clock: 64 * 256}, [5]uint64{})
	points := w.Shared().Points()
	if len(points) != 3*64*256 {
		t.Fatalf("%d points", len(points))
	}
	for j, p := range points {
		i := j / 3
		want := api.Point{Kind: []int{1, 5, 8}[j%3], Thread: i % 64, Op: i / 64, N: []int{0, 1, i + 1}[j%3]}
		if p != want {
			t.Fatalf("point %d is %v, want %v", j, p, want)
		}
	}
}

// wide returns a copy of a list with spare capacity that is filled with x.
func wide[T any](list []T, x T) []T {
	list = append(slices.Clone(list), x, x, x)
	return list[:len(list)-3]
}

// arguments returns threads and rules, all with spare capacity.
func arguments() ([]api.Rule, [][]api.Op) {
	a, b := somePair(api.TCP, 2, 0, 0, false), somePair(api.UDP, 2, 1, 0, true)
	threads := [][]api.Op{
		{tick(1), a.sent(opening), a.replied(answer), a.sent(plain)},
		{b.sent(0), b.replied(0), swap(shutText), b.sent(0), stat(1)},
		{a.sent(opening), broken(), stat(2), collect(), flush(), a.sent(opening)},
	}
	for i, ops := range threads {
		threads[i] = wide(ops, flush())
		for j := range ops {
			threads[i][j].B = wide(ops[j].B, 77)
		}
	}
	return wide([]api.Rule{only(true, api.TCP), only(true, api.UDP)}, every(false)), wide(threads, []api.Op{tick(9)})
}

// unchanged fails the test unless the arguments are as arguments returns them, also their spare capacity.
func unchanged(t *testing.T, list []api.Rule, threads [][]api.Op) {
	t.Helper()
	rules, others := arguments()
	if !slices.Equal(list[:len(list)+3], rules[:len(rules)+3]) {
		t.Fatal("the rules have changed")
	}
	same := func(x, y api.Op) bool {
		return x.Kind == y.Kind && x.N == y.N && x.S == y.S && slices.Equal(x.B, y.B) && slices.Equal(x.B[:cap(x.B)], y.B[:cap(y.B)])
	}
	for i, ops := range threads[:len(threads)+3] {
		if !slices.EqualFunc(ops, others[:len(others)+3][i], same) {
			t.Fatalf("thread %d has changed", i)
		}
		if i < len(threads) && !slices.EqualFunc(ops[:len(ops)+3], others[i][:len(ops)+3], same) {
			t.Fatalf("the spare capacity of thread %d has changed", i)
		}
	}
}

// spoil changes all that the lists share with others.
func spoil(list []api.Rule, threads [][]api.Op) {
	for i := range list[:len(list)+3] {
		list[:cap(list)][i] = every(false)
	}
	for i, ops := range threads {
		for j := range ops {
			clear(ops[j].B[:cap(ops[j].B)])
			ops[j] = api.Op{Kind: 9}
		}
		threads[i] = nil
	}
	for i := range threads[:len(threads)+3] {
		threads[:cap(threads)][i] = []api.Op{tick(7)}
	}
}

// P22.1 (R4): the arguments are neither changed nor retained, whenever the caller changes them.
func TestArgumentsAreKept(t *testing.T) {
	var picks []int
	for i := range 400 {
		picks = append(picks, i*i%7%3)
	}
	list, threads := arguments()
	untouched := start(t, config(2, 3), list, threads...)
	if n := untouched.Run(picks); n < 50 || !untouched.Done() {
		t.Fatalf("%d acts", n)
	}
	want := ask(untouched)
	unchanged(t, list, threads)
	for behind := range 80 {
		list, threads := arguments()
		w := start(t, config(2, 3), list, threads...)
		w.Run(picks[:behind])
		unchanged(t, list, threads)
		spoil(list, threads)
		w.Run(picks[behind:])
		if !ask(w).same(want) {
			t.Fatalf("changes behind %d picks make a difference", behind)
		}
	}
}

// P22.1 (R4): several worlds of the same arguments do not share them.
func TestArgumentsAreNotShared(t *testing.T) {
	list, threads := arguments()
	one, two := start(t, config(2, 3), list, threads...), start(t, config(2, 3), list, threads...)
	finish(t, one)
	unchanged(t, list, threads)
	finish(t, two)
	unchanged(t, list, threads)
	if !ask(one).same(ask(two)) {
		t.Error("two worlds of the same arguments are different")
	}
	// One list of ops for several threads, and one list of bytes for several ops.
	b := somePair(api.UDP, 2, 1, 0, false).sent(0)
	ops := []api.Op{b, b, tick(1)}
	w := start(t, config(2, 3), open(), ops, ops, ops[:2], ops[2:])
	finish(t, w)
	wantReplies(t, w, 2, verdict(api.Accept), verdict(api.Accept))
	if n := w.Shared().Stat(api.Accept); n != 6 {
		t.Errorf("%d packets are accepted", n)
	}
}
