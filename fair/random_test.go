package fair

import (
	"math"
	"math/rand"
	"slices"
	"testing"

	"mantlet/api"
	"mantlet/hist"
	"mantlet/race"
	"mantlet/world"
)

// maker makes arbitrary worlds.
type maker struct {
	*rand.Rand
	config api.Config
	flows  int
}

// newMaker returns the maker with this number: few flows, a small cap and short timeouts, so that the threads meet.
func newMaker(seed int) maker {
	m := maker{Rand: rand.New(rand.NewSource(int64(seed)))}
	m.config = api.Config{Stripes: 1 << m.Intn(4), Cap: 1 + m.Intn(4)}
	for i := range m.config.Times {
		m.config.Times[i] = m.Intn(6)
	}
	m.flows = 1 + m.Intn(5)
	return m
}

// packet returns the op of a packet of one of the flows.
func (m maker) packet() api.Op {
	flow, back := m.Intn(m.flows), m.Intn(3) == 0
	if flow%2 == 0 {
		return datagram(flow, back)
	}
	flags := []uint8{api.Syn, api.Syn, api.Syn | api.Ack, api.Ack, api.Fin | api.Ack, api.Rst}
	return segment(flow, flags[m.Intn(len(flags))], back)
}

// op returns an op.
func (m maker) op() api.Op {
	switch n := m.Intn(40); {
	case n < 20:
		return m.packet()
	case n < 26:
		return tick([]int{-1, 0, 1, 1, 2, 3, math.MaxInt}[m.Intn(7)])
	case n < 29:
		return swap([]string{openText, openText, shutText, "", "?"}[m.Intn(5)])
	case n < 31:
		return flush()
	case n < 35:
		return collect()
	case n < 37:
		return stat(m.Intn(7))
	}
	return []api.Op{broken(), unknown(), {}}[m.Intn(3)]
}

// threads returns so many threads with at most so many ops each, of all kinds or, often, of few ones.
func (m maker) threads(number, most int) [][]api.Op {
	var few []api.Op
	for range 1 + m.Intn(3) {
		few = append(few, m.op())
	}
	mixed := m.Intn(2) == 0
	list := make([][]api.Op, number)
	for i := range list {
		for range m.Intn(most + 1) {
			x := few[m.Intn(len(few))]
			if mixed {
				x = m.op()
			}
			list[i] = append(list[i], x)
		}
	}
	return list
}

// picks returns arbitrary picks, some of them of threads that do not exist, and often the same several times.
func (m maker) picks(threads, number int) []int {
	var list []int
	thread, stay := 0, m.Intn(15)
	for range number {
		if m.Intn(16) >= stay {
			thread = m.Intn(threads+2) - 1
		}
		list = append(list, thread)
	}
	return list
}

// wantAll fails the test unless each op has returned, as the sequential firewall would have it, without a race, and no flow is lost.
func wantAll(t *testing.T, c api.Config, list []api.Rule, threads [][]api.Op, w *world.World) {
	t.Helper()
	for i, ops := range threads {
		if n := len(w.Replies(i)); n != len(ops) || !w.Over(i) || w.Waits(i) {
			t.Fatalf("thread %d: %d replies, want %d", i, n, len(ops))
		}
	}
	s := w.Shared()
	if i, e := hist.Check(c, list, threads, s.Points()); e != api.OK {
		t.Fatalf("point %d: %d", i, e)
	}
	if i, e := race.Find(s.Log()); e != api.OK {
		t.Fatalf("access %d: %d", i, e)
	}
	if n := len(s.Keys()); n > c.Cap || n != s.Gate().Count {
		t.Fatalf("%d flows, of which %d are counted", n, s.Gate().Count)
	}
}

// wantBounded fails the test unless Finish, with as many rounds as Bound says, makes the world done. It returns the number of rounds.
func wantBounded(t *testing.T, c api.Config, threads [][]api.Op, w *world.World) int {
	t.Helper()
	most := Bound(c, threads)
	n, done := Finish(w, most)
	if !done || n < 0 || n > most || !w.Done() {
		t.Fatalf("%d rounds of %d, done: %v", n, most, done)
	}
	return n
}

// P25.2, P25.3, P1 to P4: arbitrary worlds behind arbitrary picks, against the second implementation.
func TestArbitrary(t *testing.T) {
	greatest, retries := 0, 0
	for seed := range 4000 {
		m := newMaker(seed)
		var list []api.Rule
		if m.Intn(5) > 0 {
			list = open()
		}
		threads := m.threads(m.Intn(8), 12)
		picks := m.picks(len(threads), m.Intn(120))
		w, other := start(t, m.config, list, threads...), start(t, m.config, list, threads...)
		w.Run(picks)
		other.Run(picks)
		for range m.Intn(4) {
			most := m.Intn(20)
			n, done := slow(t, other, most)
			wantFinish(t, w, most, n, done)
			wantSame(t, w, other)
		}
		n, _ := slow(t, other, math.MaxInt)
		if got := wantBounded(t, m.config, threads, w); got != n {
			t.Fatalf("seed %d: %d rounds, want %d", seed, got, n)
		}
		wantSame(t, w, other)
		wantAll(t, m.config, list, threads, w)
		greatest = max(greatest, n)
		retries += overtaken(w)
	}
	if greatest < 100 || retries < 10000 {
		t.Errorf("at most %d rounds, and %d loads behind stores: this tells little", greatest, retries)
	}
}

// overtaken counts the loads, also those by a Swap that was not successful, right behind another thread's store of the same word.
func overtaken(w *world.World) int {
	n := 0
	log := w.Shared().Log()
	for i := 1; i < len(log); i++ {
		a, b := log[i-1], log[i]
		if a.Kind == api.MemStore && b.Kind == api.MemLoad && a.Place == b.Place && a.Thread != b.Thread {
			n++
		}
	}
	return n
}

// P25.3, P4: two ops of any two kinds, behind all picks of a certain length.
func TestPairs(t *testing.T) {
	ops := []api.Op{
		datagram(0, false), datagram(0, true), datagram(1, false), segment(0, api.Syn, false), tick(7), swap(openText), swap("?"),
		flush(), collect(), stat(1), broken(), unknown(),
	}
	c := config(1, 1)
	for _, x := range ops {
		for _, y := range ops {
			threads := [][]api.Op{{datagram(0, false), tick(7), x}, {y, x}}
			for bits := range 1 << 8 {
				w := start(t, c, open(), threads...)
				w.Run(make([]int, 7)) // the datagram, and half of the tick
				for i := range 8 {
					w.Pick(bits >> i & 1)
				}
				wantBounded(t, c, threads, w)
				wantAll(t, c, open(), threads, w)
			}
		}
	}
}

// P25.3, P4: one thread has an act in each round.
func TestOneThread(t *testing.T) {
	acts := 0
	for seed := range 400 {
		m := newMaker(seed)
		threads := m.threads(1, 20)
		other := start(t, m.config, open(), threads...)
		n := 0
		for other.Pick(0) {
			n++
		}
		w := start(t, m.config, open(), threads...)
		before := w.Run(m.picks(1, m.Intn(40)))
		if rounds := wantBounded(t, m.config, threads, w); rounds != n-before {
			t.Fatalf("%d rounds, want %d", rounds, n-before)
		}
		wantSame(t, w, other)
		acts += n
	}
	if acts < 10000 {
		t.Errorf("only %d acts: this tells little", acts)
	}
}

// P25.3: one op of each kind alone is done within Bound, for the fewest and the most stripes.
func TestOneOp(t *testing.T) {
	for _, stripes := range []int{1, 2, 4096} {
		for _, x := range []api.Op{datagram(0, false), segment(0, api.Syn, false), tick(1), swap(openText), swap("?"), flush(), collect(), stat(1), broken(), unknown()} {
			c := config(stripes, 1)
			threads := [][]api.Op{{x}}
			sweep := x.Kind == api.OpFlush || x.Kind == api.OpCollect
			n := wantBounded(t, c, threads, start(t, c, open(), threads...))
			if sweep && n != 2*stripes || !sweep && n > 6 {
				t.Errorf("op %d has %d acts", x.Kind, n)
			}
		}
	}
}

// P25.3, P4: as many threads and ops as there may be, all of which change the same words.
func TestMost(t *testing.T) {
	c := config(1, 4095)
	for _, each := range [][]api.Op{
		{tick(1)},
		{broken()},
		{datagram(0, false), datagram(0, true)},
		{datagram(0, false), tick(6)},
		{datagram(0, false), flush(), datagram(1, true), collect()},
	} {
		threads := slices.Repeat([][]api.Op{slices.Repeat(each, 256/len(each))}, 64)
		w := start(t, c, open(), threads...)
		if n := wantBounded(t, c, threads, w); n < 10000 {
			t.Errorf("%d rounds: this tells little", n)
		}
		wantAll(t, c, open(), threads, w)
	}
}

// P25.3, P4: many flows, which many threads remove at the same time.
func TestManyFlows(t *testing.T) {
	for _, stripes := range []int{1, 16} {
		for _, last := range [][]api.Op{{flush()}, {tick(6), collect()}} {
			c := config(stripes, 4095)
			threads := make([][]api.Op, 20)
			for i := range threads {
				for n := range 20 {
					threads[i] = append(threads[i], datagram(20*i+n, false))
				}
				threads[i] = append(threads[i], last...)
			}
			w := start(t, c, open(), threads...)
			wantBounded(t, c, threads, w)
			wantAll(t, c, open(), threads, w)
			// The last one of them to begin begins behind all packets.
			if n := w.Shared().Gate().Count; n != 0 {
				t.Errorf("%d flows are left", n)
			}
		}
	}
}

// P25.3: threads that have overtaken each other, behind picks by which one of them always comes between the load and the swap of the others.
func TestStarved(t *testing.T) {
	c := config(1, 3)
	threads := [][]api.Op{slices.Repeat([]api.Op{tick(1)}, 256), {tick(1)}, {datagram(0, false), datagram(0, true), collect()}}
	w := start(t, c, open(), threads...)
	for range 100 {
		w.Run([]int{1, 2, 0, 0})
	}
	if w.Over(1) || len(w.Replies(0)) != 100 {
		t.Fatal("thread 1 has not been overtaken")
	}
	wantBounded(t, c, threads, w)
	wantAll(t, c, open(), threads, w)
}
