package world

import (
	"math"
	"math/rand"
	"slices"
	"testing"

	"mantlet/api"
)

// source makes arbitrary threads and picks.
type source struct {
	*rand.Rand
	config api.Config
	list   []api.Rule
	pairs  []pair
}

// newSource returns the source with this number: few flows, a small cap and short timeouts, so that the threads meet.
func newSource(seed int) source {
	r := source{Rand: rand.New(rand.NewSource(int64(seed)))}
	r.config = api.Config{Stripes: 1 << r.Intn(3), Cap: 1 + r.Intn(4)}
	for i := range r.config.Times {
		r.config.Times[i] = r.Intn(7)
	}
	if r.Intn(4) > 0 {
		r.list = open()
	}
	for i := range 1 + r.Intn(5) {
		proto := one[uint8](r, api.TCP, api.TCP, api.UDP, api.ICMP)
		r.pairs = append(r.pairs, somePair(proto, r.config.Stripes, r.Intn(r.config.Stripes), i, r.Intn(2) == 0))
	}
	return r
}

// one returns one of a list.
func one[T any](r source, list ...T) T {
	return list[r.Intn(len(list))]
}

// packet returns the op of a packet of one of the pairs.
func (r source) packet() api.Op {
	p := one(r, r.pairs...)
	if p.proto != api.TCP {
		return p.op(r.Intn(2), 0)
	}
	if r.Intn(3) == 0 {
		return p.replied(one[uint8](r, answer, answer, plain, ending, opening, reset))
	}
	return p.sent(one[uint8](r, opening, opening, opening, plain, plain, ending, reset, answer))
}

// op returns an op.
func (r source) op() api.Op {
	switch n := r.Intn(40); {
	case n < 20:
		return r.packet()
	case n < 25:
		return tick(one(r, 0, 1, 1, 1, 2, 3, -1, math.MinInt))
	case n < 28:
		return swap(one(r, openText, openText, shutText, "", "?"))
	case n < 30:
		return flush()
	case n < 33:
		return collect()
	case n < 36:
		return stat(one(r, -1, 0, 1, 1, 2, 3, 4, 5, 6))
	case n < 38:
		return api.Op{Kind: isPacket, B: one(r, nil, []byte{1}, make([]byte, 1501), make([]byte, 20), r.packet().B[:25])}
	}
	return api.Op{Kind: one(r, 0, 7, -1, math.MaxInt)}
}

// threads returns the ops of several threads, some of which have none.
func (r source) threads() [][]api.Op {
	list := make([][]api.Op, r.Intn(7))
	for i := range list {
		for range r.Intn(20) {
			list[i] = append(list[i], r.op())
		}
	}
	return list
}

// picks returns picks: the greater stay is, the more of them are the same in a row. Some are of threads that do not exist.
func (r source) picks(threads, number, stay int) []int {
	var list []int
	thread := 0
	for range number {
		if r.Intn(16) >= stay {
			thread = r.Intn(threads+2) - 1
		}
		list = append(list, thread)
	}
	return list
}

// both is a world and the second implementation, with the same threads.
type both struct {
	*testing.T
	w       *World
	slow    *slow
	threads [][]api.Op
	met     map[string]int // how often a pick met a thread that is so
}

// compare fails the test unless both tell the same. All are the accesses and points, too.
func (x both) compare(all bool) {
	for i := -1; i <= len(x.threads); i++ {
		if got, want := x.w.Over(i), x.slow.over(i); got != want {
			x.Fatalf("Over(%d) = %v, want %v", i, got, want)
		}
		if got, want := x.w.Waits(i), x.slow.waits(i); got != want {
			x.Fatalf("Waits(%d) = %v, want %v", i, got, want)
		}
		if got, want := x.w.Replies(i), x.slow.replies(i); !slices.Equal(got, want) {
			x.Fatalf("Replies(%d) = %v, want %v", i, got, want)
		}
	}
	if got, want := x.w.Done(), x.slow.done(); got != want {
		x.Fatalf("Done() = %v, want %v", got, want)
	}
	s, o := x.w.Shared(), x.slow.shared
	if s.Gate() != o.Gate() || !slices.Equal(s.Keys(), o.Keys()) {
		x.Fatalf("gate %v, keys %v, want %v, %v", s.Gate(), s.Keys(), o.Gate(), o.Keys())
	}
	for v := range 7 {
		if s.Stat(v) != o.Stat(v) {
			x.Fatalf("Stat(%d) = %d, want %d", v, s.Stat(v), o.Stat(v))
		}
	}
	if all && (!slices.Equal(s.Points(), o.Points()) || !slices.Equal(s.Log(), o.Log())) {
		x.Fatalf("points %v, want %v; accesses %v, want %v", s.Points(), o.Points(), s.Log(), o.Log())
	}
}

// pick picks a thread in both.
func (x both) pick(thread int) {
	x.meet(thread)
	if got, want := x.w.Pick(thread), x.slow.pick(thread); got != want {
		x.Fatalf("Pick(%d) = %v, want %v", thread, got, want)
	}
}

// meet counts what a pick meets.
func (x both) meet(thread int) {
	switch {
	case thread < 0 || thread >= len(x.threads):
		x.met["nobody"]++
	case x.w.Over(thread):
		x.met["over"]++
	case x.w.Waits(thread) && len(x.w.Replies(thread)) == 0:
		x.met["waits at first"]++
	case x.w.Waits(thread):
		x.met["waits"]++
	default:
		x.met["act"]++
	}
}

// run picks these threads in both: in the world by one call of Run.
func (x both) run(picks []int) {
	want := 0
	for _, i := range picks {
		if x.slow.pick(i) {
			want++
		}
	}
	if got := x.w.Run(picks); got != want {
		x.Fatalf("Run(%v) = %d, want %d", picks, got, want)
	}
}

// withinCap fails the test if there are more flows than the cap, or more than are counted.
func (x both) withinCap(limit int) {
	count, flows := x.w.Shared().Gate().Count, len(x.w.Shared().Keys())
	if count > limit || flows > count {
		x.Fatalf("%d flows, of which %d are counted, and the cap is %d", flows, count, limit)
	}
}

// wantOps fails the test unless the points of each thread are those of its ops, one after the other.
func (x both) wantOps() {
	replies := make([][]api.Reply, len(x.threads))
	begun := make([]bool, len(x.threads))
	for i, p := range x.w.Shared().Points() {
		t := p.Thread
		if p.Op != len(replies[t]) || begun[t] == (p.Kind == api.PtCall) {
			x.Fatalf("point %d, %v, comes behind %d replies", i, p, len(replies[t]))
		}
		begun[t] = p.Kind != api.PtReturn
		if p.Kind == api.PtReturn {
			replies[t] = append(replies[t], api.Reply{Verdict: p.Verdict, N: p.N})
		}
	}
	for t, list := range replies {
		same := func(a, b api.Reply) bool { return a.Verdict == b.Verdict && a.N == b.N }
		if !slices.EqualFunc(list, x.w.Replies(t), same) {
			x.Fatalf("thread %d has replied %v, and by its points %v", t, x.w.Replies(t), list)
		}
	}
}

// wantMutexes fails the test if a thread holds two mutexes, or a mutex is held at the end.
func (x both) wantMutexes() {
	held := map[int]int{} // the mutex of each thread
	for i, a := range x.w.Shared().Log() {
		mutex, holds := held[a.Thread]
		switch a.Kind {
		case api.MemLock:
			for t, n := range held {
				if n == a.Place {
					x.Fatalf("access %d, %v: thread %d holds the mutex", i, a, t)
				}
			}
			if holds {
				x.Fatalf("access %d, %v: the thread holds %d", i, a, mutex)
			}
			held[a.Thread] = a.Place
		case api.MemUnlock:
			if !holds || mutex != a.Place {
				x.Fatalf("access %d, %v: the thread does not hold the mutex", i, a)
			}
			delete(held, a.Thread)
		}
	}
	if len(held) != 0 {
		x.Fatalf("held at the end: %v", held)
	}
}

// newBoth returns both.
func newBoth(t *testing.T, r source, threads [][]api.Op, met map[string]int) both {
	w, e := New(r.config, r.list, threads)
	if e != api.OK || w.Threads() != len(threads) {
		t.Fatalf("New: %d", e)
	}
	return both{T: t, w: w, slow: newSlow(r.config, r.list, threads), threads: threads, met: met}
}

// P22.1, P22.2, P1 to P4: long arbitrary picks of several threads, against the second implementation; the sequential firewall does the same in the order of the points; and all threads are done in the end.
func TestArbitrary(t *testing.T) {
	met := map[string]int{}
	for seed := range 1200 {
		r := newSource(seed)
		threads := r.threads()
		x := newBoth(t, r, threads, met)
		x.compare(true)
		stay := r.Intn(15)
		for n := range 300 {
			if r.Intn(10) == 0 {
				x.run(r.picks(len(threads), r.Intn(20), stay))
			} else {
				x.pick(r.picks(len(threads), 1, 0)[0])
			}
			x.compare(n%25 == 0)
			x.withinCap(r.config.Cap)
		}
		for n := 0; !x.w.Done(); n++ {
			if n == 10000 {
				t.Fatal("the threads do not end")
			}
			x.run(r.picks(len(threads), 50, stay))
			x.withinCap(r.config.Cap)
		}
		x.compare(true)
		x.wantOps()
		x.wantMutexes()
		a := newWall(r.config, r.list)
		if i := a.follow(x.w.Shared().Points(), threads); i >= 0 {
			t.Fatalf("seed %d: point %d, %v: the firewall does not do so", seed, i, x.w.Shared().Points()[i])
		}
		if s := x.w.Shared(); a.Gate() != s.Gate() || !slices.Equal(a.Keys(), s.Keys()) {
			t.Fatalf("seed %d: %v, %v, and the firewall has %v, %v", seed, s.Gate(), s.Keys(), a.Gate(), a.Keys())
		}
		x.slow.stop()
	}
	for _, s := range []string{"nobody", "over", "waits at first", "waits", "act"} {
		if met[s] < 300 {
			t.Errorf("%q only %d times: the arbitrary picks tell little", s, met[s])
		}
	}
}

// P22.1, P5: ops that run one after the other reply as the sequential firewall does, in whatever order the threads take turns.
func TestOneAfterTheOther(t *testing.T) {
	for seed := range 300 {
		r := newSource(seed)
		threads := r.threads()
		w, _ := New(r.config, r.list, threads)
		a := newWall(r.config, r.list)
		for !w.Done() {
			i := r.Intn(len(threads))
			n := len(w.Replies(i))
			if n == len(threads[i]) {
				continue
			}
			for len(w.Replies(i)) == n {
				if !w.Pick(i) {
					t.Fatalf("seed %d: op %d of thread %d waits", seed, n, i)
				}
			}
			if got, want := w.Replies(i)[n], a.do(threads[i][n]); got != want {
				t.Fatalf("seed %d: op %d of thread %d, %v, replies %v, want %v", seed, n, i, threads[i][n], got, want)
			}
		}
		s := w.Shared()
		if s.Gate() != a.Gate() || !slices.Equal(s.Keys(), a.Keys()) {
			t.Fatalf("seed %d: %v, %v, want %v, %v", seed, s.Gate(), s.Keys(), a.Gate(), a.Keys())
		}
		for v := 1; v <= 5; v++ {
			if s.Stat(v) != a.Stat(v) {
				t.Fatalf("seed %d: counter %d is %d, want %d", seed, v, s.Stat(v), a.Stat(v))
			}
		}
	}
}

// R5: the same picks have the same answers each time, whatever is asked, and is done in another world, in between.
func TestSameAgain(t *testing.T) {
	acts := 0
	for seed := range 60 {
		r := newSource(seed)
		threads := append(r.threads(), []api.Op{r.op(), r.op()})
		picks := r.picks(len(threads), 500, r.Intn(15))
		w := start(t, r.config, r.list, threads...)
		total := w.Run(picks)
		want := ask(w)
		acts += total
		other := start(t, r.config, r.list, threads...)
		for range 3 {
			w := start(t, r.config, r.list, threads...)
			n := 0
			for i, p := range picks {
				if w.Pick(p) {
					n++
				}
				other.Pick(p + i%3)
				if i%20 == 0 {
					ask(w)
				}
			}
			if n != total || !ask(w).same(want) {
				t.Fatalf("seed %d: other answers", seed)
			}
		}
	}
	if acts < 6000 {
		t.Errorf("only %d acts: this tells little", acts)
	}
}
