package prog

import (
	"math"
	"math/rand"
	"slices"
	"testing"

	"mantlet/api"
	"mantlet/auto"
	"mantlet/key"
	"mantlet/rules"
	"mantlet/wire"
)

// source makes arbitrary ops and picks.
type source struct {
	*rand.Rand
	config api.Config
	list   []api.Rule
	pairs  []pair
	few    bool // whether most ops are packets and ticks
}

// newSource returns the source with this number: few flows, a small cap and short timeouts, so that the threads meet. Every third one has a single flow and little beside it.
func newSource(seed int) source {
	r := source{Rand: rand.New(rand.NewSource(int64(seed)))}
	if seed%3 == 2 {
		r.few = true
		r.config = api.Config{Stripes: 1, Cap: 1, Times: [16]int{1: 2, 2: 2, 8: 2, 9: 2}}
		r.list = open()
		r.pairs = []pair{somePair(one[uint8](r, api.TCP, api.UDP), 1, 0, 0, seed%2 == 0)}
		return r
	}
	r.config = api.Config{Stripes: 1 << r.Intn(3), Cap: 1 + r.Intn(4)}
	for i := range r.config.Times {
		r.config.Times[i] = r.Intn(7)
	}
	if r.Intn(4) > 0 {
		r.list = open()
	}
	for i := range 1 + r.Intn(5) {
		proto := []uint8{api.TCP, api.TCP, api.UDP, api.ICMP}[r.Intn(4)]
		r.pairs = append(r.pairs, somePair(proto, r.config.Stripes, r.Intn(r.config.Stripes), i, r.Intn(2) == 0))
	}
	return r
}

// one returns one of a list.
func one[T any](r source, list ...T) T {
	return list[r.Intn(len(list))]
}

// packet returns the op of a packet of one of the pairs.
func (r source) packet() api.Op {
	p := one(r, r.pairs...)
	from := min(r.Intn(3), 1) ^ 1
	switch p.proto {
	case api.ICMP:
		return send(p.packet(from, 0, one[uint8](r, api.Echo, api.Echo, api.EchoReply)))
	case api.UDP:
		return send(p.packet(from, 0, 0))
	}
	if from == 1 {
		return send(p.packet(1, one[uint8](r, answer, answer, plain, ending, opening, reset), 0))
	}
	return send(p.packet(0, one[uint8](r, opening, opening, opening, plain, plain, ending, reset, answer), 0))
}

// op returns an op.
func (r source) op() api.Op {
	n := r.Intn(40)
	if r.few {
		n = r.Intn(28)
	}
	switch {
	case n < 22:
		return r.packet()
	case n < 28:
		return tick(one(r, 0, 1, 1, 1, 2, 3, -1, math.MinInt))
	case n < 31:
		return swap(one(r, openText, openText, openText, shutText, "", "drop udp any any any any\n"+openText, "?"))
	case n < 33:
		return flush()
	case n < 36:
		return collect()
	case n < 38:
		return stat(one(r, -1, 0, 1, 1, 2, 3, 4, 5, 6))
	case n < 39:
		return api.Op{Kind: isPacket, B: one(r, nil, []byte{1}, make([]byte, 1501), make([]byte, 20), r.packet().B[:25])}
	}
	return api.Op{Kind: one(r, 0, 7, -1, math.MaxInt)}
}

// threads returns the ops of several threads.
func (r source) threads() [][]api.Op {
	list := make([][]api.Op, 2+r.Intn(5))
	for i := range list {
		for range 5 + r.Intn(15) {
			list[i] = append(list[i], r.op())
		}
	}
	return list
}

// both is a shared state and the second implementation, in which the same ops are performed.
type both struct {
	*testing.T
	s       *Shared
	slow    *slow
	threads [][]api.Op
	next    []int // the number of each thread's op
	runs    []*Run
	others  []*slowRun
	replies [][]api.Reply
}

// newBoth returns both, with the first op of each thread begun.
func newBoth(t *testing.T, c api.Config, list []api.Rule, threads [][]api.Op) *both {
	t.Helper()
	s, e := New(c, list)
	if e != api.OK {
		t.Fatal(e)
	}
	x := &both{T: t, s: s, slow: newSlow(c, list), threads: threads, next: make([]int, len(threads))}
	x.runs, x.others = make([]*Run, len(threads)), make([]*slowRun, len(threads))
	x.replies = make([][]api.Reply, len(threads))
	for i := range threads {
		x.begin(i)
	}
	return x
}

// begin begins the next op of a thread.
func (x *both) begin(thread int) {
	n := x.next[thread]
	if n < len(x.threads[thread]) {
		x.runs[thread] = Begin(x.s, thread, n, x.threads[thread][n])
		x.others[thread] = x.slow.begin(thread, n, x.threads[thread][n])
	}
}

// set gives both the same value of a counter, which the calls would take too long to reach.
func (x *both) set(v int, n uint64) {
	x.s.memory.Swap(0, v, 0, n)
	x.slow.counts[v] = n
	x.slow.log = append(x.slow.log, api.Access{Kind: api.MemStore, Place: 3 * v})
}

// ended reports whether a thread has performed all its ops.
func (x *both) ended(thread int) bool {
	return x.next[thread] == len(x.threads[thread])
}

// pick performs the next act of a thread in both.
func (x *both) pick(thread int) bool {
	if x.ended(thread) {
		return false
	}
	r, o := x.runs[thread], x.others[thread]
	if got, want := r.Step(), o.step(); got != want {
		x.Fatalf("thread %d, op %d, behind %q: Step() = %v, want %v", thread, x.next[thread], o.label, got, want)
	} else if !got {
		return false
	}
	y, ok := r.Done()
	if reply, over := o.done(); y != reply || ok != over {
		x.Fatalf("thread %d, op %d, behind %q: Done() = %v, %v, want %v, %v", thread, x.next[thread], o.label, y, ok, reply, over)
	}
	if ok {
		x.replies[thread] = append(x.replies[thread], y)
		x.next[thread]++
		x.begin(thread)
	}
	return true
}

// compare fails the test unless both have the same properties. All are the accesses and points, too.
func (x *both) compare(all bool) {
	for i, r := range x.runs {
		if r.Blocked() != x.others[i].blocked() {
			x.Fatalf("thread %d: Blocked() = %v", i, r.Blocked())
		}
	}
	if got := x.s.Gate(); got != x.slow.gate {
		x.Fatalf("gate %v, want %v", got, x.slow.gate)
	}
	for v := 1; v <= 5; v++ {
		if got := x.s.Stat(v); got != x.slow.counts[v] {
			x.Fatalf("Stat(%d) = %d, want %d", v, got, x.slow.counts[v])
		}
	}
	if got, want := x.s.Keys(), x.slow.keys(); !slices.Equal(got, want) {
		x.Fatalf("keys %v, want %v", got, want)
	}
	if !all {
		return
	}
	if got := x.s.Log(); !slices.Equal(got, x.slow.log) {
		x.Fatalf("accesses %v, want %v", got, x.slow.log)
	}
	if got, want := x.s.Points(), x.slow.visible(); !slices.Equal(got, want) {
		x.Fatalf("points %v, want %v", got, want)
	}
}

// perform performs all ops, in an order by r: the greater stay is, the more acts a thread performs in a row.
func (x *both) perform(r source) {
	x.compare(true)
	thread, stay := 0, r.Intn(15)
	for n := 0; !x.done(); n++ {
		if n == 1000000 {
			x.Fatal("the ops do not end")
		}
		if r.Intn(16) >= stay {
			thread = r.Intn(len(x.threads))
		}
		if x.pick(thread) {
			x.compare(n < 100 || n%20 == 0)
		}
	}
	x.compare(true)
}

// done reports whether all threads have ended.
func (x *both) done() bool {
	for i := range x.threads {
		if !x.ended(i) {
			return false
		}
	}
	return true
}

// replay lets the sequential firewall do what the points tell, and fails the test unless it comes to the same.
func (x *both) replay(c api.Config, list []api.Rule) {
	a, _ := auto.New(c, list)
	for i, p := range x.s.Points() {
		op := x.threads[p.Thread][p.Op]
		ok := true
		switch p.Kind {
		case api.PtAct:
			packet, e := wire.Parse(op.B)
			if e == api.OK {
				k, _ := key.Of(packet)
				ok = k == p.Key && !a.Delete(k) && a.Act(packet) == p.Verdict
			} else {
				ok = p.Verdict == malformed
			}
		case api.PtCount:
			a.Count(p.Verdict)
		case api.PtDelete:
			if p.N == 1 {
				ok = a.Drop(p.Key)
			} else {
				ok = a.Delete(p.Key)
			}
		case api.PtTick:
			a.Tick(p.N)
		case api.PtSwap:
			l, _, _ := rules.Compile(op.S)
			v, e := a.Swap(l)
			ok = v == p.N && e == api.OK
		case api.PtStat:
			ok = a.Stat(p.Verdict) == uint64(p.N)
		}
		if !ok {
			x.Fatalf("point %d, %v: the firewall does not do so", i, p)
		}
	}
	if a.Gate() != x.s.Gate() || !slices.Equal(a.Keys(), x.s.Keys()) {
		x.Fatalf("%v, %v, and the firewall has %v, %v", x.s.Gate(), x.s.Keys(), a.Gate(), a.Keys())
	}
}

// The acts that follow one another in the chapter's list.
var allWays = []string{
	" find", " malformed", " tick load", " swap error", " swap lock", " sweep lock", " stat", " unknown",
	"find release", "find absent", "release load", "load find", "load judge", "judge look", "judge advance", "judge sure",
	"advance load", "advance count", "sure load", "sure count", "look again", "look absent", "again over", "over kill", "over release",
	"kill less", "kill again", "less leave", "leave less", "leave absent", "absent enter", "absent unlock", "enter absent", "enter unlock",
	"unlock count", "count add", "count return", "add count", "add return", "malformed add", "malformed return",
	"tick load tick swap", "tick swap tick load", "tick swap return",
	"swap error return", "swap lock swap load", "swap load swap swap", "swap swap swap load", "swap swap swap unlock", "swap unlock return",
	"stat return", "unknown return",
	"sweep lock sweep find", "sweep lock sweep unlock", "sweep find sweep gate", "sweep find sweep kill", "sweep gate sweep find", "sweep gate sweep kill", "sweep gate sweep unlock",
	"sweep kill sweep find", "sweep kill less", "leave sweep find", "leave sweep unlock", "sweep unlock sweep lock", "sweep unlock return",
}

// P21.1, P21.2: long arbitrary schedules of several threads, against the second implementation; and the sequential firewall does the same in the order of the points.
func TestArbitrary(t *testing.T) {
	ways := map[string]int{}
	for seed := range 3000 {
		r := newSource(seed)
		x := newBoth(t, r.config, r.list, r.threads())
		if seed%10 == 0 {
			for v := 1; v <= 5; v++ {
				x.set(v, math.MaxUint64-uint64(r.Intn(4)))
			}
		}
		x.perform(r)
		if seed%10 != 0 {
			x.replay(r.config, r.list)
		}
		for w, n := range x.slow.ways {
			ways[w] += n
		}
	}
	for _, w := range allWays {
		if ways[w] < 20 {
			t.Errorf("%q only %d times: the arbitrary schedules tell little", w, ways[w])
		}
	}
	for w := range ways {
		if !slices.Contains(allWays, w) {
			t.Errorf("%q is not in the chapter's list", w)
		}
	}
}

// answers performs a schedule without the second implementation, and returns all that it came to.
func answers(t *testing.T, seed int, between func()) (points []api.Point, log []api.Access, replies []api.Reply) {
	t.Helper()
	r := newSource(seed)
	threads := r.threads()
	s, _ := New(r.config, r.list)
	runs := make([]*Run, len(threads))
	next := make([]int, len(threads))
	for range 3000 {
		i := r.Intn(len(threads))
		if runs[i] == nil && next[i] < len(threads[i]) {
			runs[i] = Begin(s, i, next[i], threads[i][next[i]])
			next[i]++
		}
		runs[i].Step()
		between()
		if y, ok := runs[i].Done(); ok {
			replies = append(replies, y)
			runs[i] = nil
		}
	}
	return s.Points(), s.Log(), replies
}

// R5: the same schedule has the same answers each time, whatever else is done in between.
func TestSameAgain(t *testing.T) {
	for seed := range 30 {
		points, log, replies := answers(t, seed, func() {})
		other := newBench(t)
		n := 0
		for range 3 {
			p, l, y := answers(t, seed, func() {
				n++
				for r := Begin(other.s, 1, n, other.pairs["a"].op(n%2, opening)); r.Step(); {
				}
				if n%5 == 0 {
					for r := Begin(other.s, 2, n, tick(3)); r.Step(); {
					}
				}
			})
			if !slices.Equal(p, points) || !slices.Equal(l, log) || !slices.Equal(y, replies) {
				t.Fatalf("seed %d: other answers", seed)
			}
		}
		if len(points) < 30 || len(replies) < 10 {
			t.Errorf("seed %d: only %d points and %d replies", seed, len(points), len(replies))
		}
	}
}

// P21.2: what Points, Log and Keys return in between, and asking Blocked and Done, makes no difference.
func TestAskingChangesNothing(t *testing.T) {
	for seed := range 10 {
		points, log, replies := answers(t, seed, func() {})
		r := newSource(seed)
		threads := r.threads()
		s, _ := New(r.config, r.list)
		runs := make([]*Run, len(threads))
		next := make([]int, len(threads))
		var got []api.Reply
		for range 3000 {
			i := r.Intn(len(threads))
			if runs[i] == nil && next[i] < len(threads[i]) {
				runs[i] = Begin(s, i, next[i], threads[i][next[i]])
				next[i]++
			}
			for _, q := range runs {
				q.Blocked()
				q.Done()
			}
			runs[i].Step()
			clear(s.Keys())
			s.Gate()
			for v := range 8 {
				s.Stat(v)
			}
			if y, ok := runs[i].Done(); ok {
				got = append(got, y)
				runs[i] = nil
			}
		}
		if !slices.Equal(s.Points(), points) || !slices.Equal(s.Log(), log) || !slices.Equal(got, replies) {
			t.Fatalf("seed %d: other answers", seed)
		}
	}
}
