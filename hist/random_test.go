package hist

import (
	"math"
	"math/rand"
	"slices"
	"testing"

	"mantlet/api"
	"mantlet/wire"
	"mantlet/world"
)

// source makes arbitrary threads, picks and points.
type source struct {
	*rand.Rand
	config api.Config
	list   []api.Rule
	pairs  []pair
}

// newSource returns the source with this number: few flows, a small cap and short timeouts, so that the threads meet.
func newSource(seed int) source {
	r := source{Rand: rand.New(rand.NewSource(int64(seed)))}
	r.config = api.Config{Stripes: 1 << r.Intn(3), Cap: 1 + r.Intn(4)}
	for i := range r.config.Times {
		r.config.Times[i] = r.Intn(5)
	}
	if r.Intn(4) > 0 {
		r.list = open()
	}
	for i := range 1 + r.Intn(5) {
		r.pairs = append(r.pairs, somePair(one[uint8](r, api.TCP, api.TCP, api.UDP, api.ICMP), i, r.Intn(2) == 0))
	}
	return r
}

// one returns one of a list.
func one[T any](r source, list ...T) T {
	return list[r.Intn(len(list))]
}

// packet returns the op of a packet of one of the pairs.
func (r source) packet() api.Op {
	p := one(r, r.pairs...)
	if p.proto != api.TCP {
		return p.op(r.Intn(2), 0)
	}
	if r.Intn(3) == 0 {
		return p.replied(one[uint8](r, answer, answer, plain, ending, opening, reset))
	}
	return p.sent(one[uint8](r, opening, opening, opening, plain, plain, ending, reset, answer))
}

// op returns an op.
func (r source) op() api.Op {
	switch n := r.Intn(43); {
	case n < 18:
		return r.packet()
	case n < 26:
		if r.Intn(40) == 0 {
			return tick(one(r, topClock-3, topClock, math.MaxInt))
		}
		return tick(one(r, 0, 1, 1, 2, 3, 3, 5, -1, math.MinInt))
	case n < 28:
		return swap(one(r, openText, openText, shutText, "", "?"))
	case n < 30:
		return flush()
	case n < 36:
		return collect()
	case n < 39:
		return stat(one(r, -1, 0, 1, 1, 2, 3, 4, 5, 6))
	case n < 41:
		return api.Op{Kind: isPacket, B: one(r, nil, []byte{1}, make([]byte, 1501), make([]byte, 20), r.packet().B[:25])}
	}
	return api.Op{Kind: one(r, 0, 7, -1, math.MaxInt)}
}

// threads returns the ops of several threads, some of which have none.
func (r source) threads() [][]api.Op {
	list := make([][]api.Op, r.Intn(7))
	for i := range list {
		for range r.Intn(20) {
			list[i] = append(list[i], r.op())
		}
	}
	return list
}

// picks returns picks: the greater stay is, the more of them are the same in a row. Some are of threads that do not exist.
func (r source) picks(threads, number, stay int) []int {
	var list []int
	thread := 0
	for range number {
		if r.Intn(16) >= stay {
			thread = r.Intn(threads+2) - 1
		}
		list = append(list, thread)
	}
	return list
}

// number returns a number, which is often a small one.
func (r source) number() int {
	if r.Intn(8) == 0 {
		return one(r, edges()...)
	}
	return r.Intn(9) - 2
}

// key returns the key of one of the pairs, or another one.
func (r source) key() api.Key {
	k := one(r, r.pairs...).key()
	switch r.Intn(8) {
	case 0:
		return api.Key{}
	case 1:
		k.Proto++
	case 2:
		k.Port[r.Intn(2)]++
	case 3:
		k.Addr[r.Intn(2)]++
	}
	return k
}

// change changes a part of a point.
func (r source) change(p api.Point) api.Point {
	switch r.Intn(7) {
	case 0:
		p.Kind = r.number()
	case 1:
		p.Thread = r.number()
	case 2:
		p.Op = r.number()
	case 3:
		p.Op += one(r, -1, 1)
	case 4:
		p.Key = r.key()
	case 5:
		p.Verdict = r.number()
	case 6:
		p.N = r.number()
	}
	return p
}

// spoil returns points that are a little different.
func (r source) spoil(points []api.Point) []api.Point {
	i, j := r.Intn(len(points)), r.Intn(len(points))
	switch r.Intn(6) {
	case 0: // one is missing
		return slices.Concat(points[:i], points[i+1:])
	case 1: // one comes twice
		return slices.Concat(points[:i], points[i:i+1], points[i:])
	case 2: // one comes early or late
		return slices.Insert(slices.Concat(points[:i], points[i+1:]), min(j, len(points)-1), points[i])
	case 3: // two are exchanged
		j = (i + 1) % len(points)
		list := slices.Clone(points)
		list[i], list[j] = list[j], list[i]
		return list
	case 4: // there is another one
		return slices.Concat(points[:i], []api.Point{r.change(points[j])}, points[i:])
	}
	list := slices.Clone(points)
	list[i] = r.change(list[i])
	return list
}

// guess returns a point that may be valid as the next one.
func (r source) guess(s *slow) api.Point {
	thread := r.Intn(len(s.threads))
	op, in := s.current(thread)
	for n := 0; op == len(s.threads[thread]) && n < 10; n++ {
		thread = r.Intn(len(s.threads))
		op, in = s.current(thread)
	}
	if !in || r.Intn(20) == 0 {
		return call(thread, op)
	}
	x := s.threads[thread][op]
	if r.Intn(3) == 0 {
		p := back(thread, op, 0, 0)
		p.Verdict, p.N = s.verdict(p), s.number(p, x)
		return p
	}
	switch x.Kind {
	case isPacket:
		return r.guessPacket(s, thread, op)
	case isTick:
		return ticked(thread, op, x.N)
	case isSwap:
		return swapped(thread, op, s.wall.Gate().Version+1)
	case isFlush:
		return gone(thread, op, one(r, append(s.wall.Keys(), r.key())...), 1)
	case isCollect:
		return gone(thread, op, one(r, append(s.wall.Keys(), r.key())...), 0)
	}
	return read(thread, op, x.N, int(s.wall.Stat(x.N)))
}

// guessPacket returns such a point of a packet.
func (r source) guessPacket(s *slow, thread, op int) api.Point {
	x := s.threads[thread][op]
	k := keyOf(x)
	switch n := r.Intn(8); {
	case n == 0 || n < 7 && len(s.of(thread, op, isAct)) > 0:
		return count(thread, op, s.verdict(call(thread, op)))
	case n < 3:
		return gone(thread, op, k, 0)
	}
	verdict := malformed
	if p, e := wire.Parse(x.B); e == api.OK {
		verdict = r.again(s).wall.Act(p)
	}
	return act(thread, op, k, verdict)
}

// again returns one with the same points.
func (r source) again(s *slow) *slow {
	x := newSlow(r.config, r.list, s.threads)
	x.first(s.points)
	return x
}

// wantSame fails the test unless Check and the second implementation tell the same.
func (r source) wantSame(t *testing.T, threads [][]api.Op, points []api.Point) int {
	want := newSlow(r.config, r.list, threads).first(points)
	e := api.OK
	if want < len(points) {
		e = api.ErrOrder
	}
	if n, err := Check(r.config, r.list, threads, points); n != want || err != e {
		t.Fatalf("Check = %d, %d, want %d, %d, of threads %v, points %v", n, err, want, e, threads, points)
	}
	return want
}

// name names a point by its op and its kind.
func name(threads [][]api.Op, p api.Point) string {
	if p.Thread < 0 || p.Thread >= len(threads) || p.Op < 0 || p.Op >= len(threads[p.Thread]) || p.Kind < isCall || p.Kind > isReturn {
		return "none"
	}
	ops := map[int]string{isPacket: "packet", isTick: "tick", isSwap: "swap", isFlush: "flush", isStat: "stat", isCollect: "collect"}
	op, ok := ops[threads[p.Thread][p.Op].Kind]
	if !ok {
		op = "unknown"
	}
	return op + " " + []string{"call", "act", "count", "delete", "tick", "swap", "stat", "return"}[p.Kind-1]
}

// possible returns the names of the points that are sometimes valid.
func possible() []string {
	list := []string{"packet act", "packet count", "packet delete", "tick tick", "swap swap", "flush delete", "stat stat", "collect delete"}
	for _, op := range []string{"packet", "tick", "swap", "flush", "stat", "collect", "unknown"} {
		list = append(list, op+" call", op+" return")
	}
	return list
}

// P23.2, P1: the points of worlds are valid, for arbitrary picks, after each pick. The same points with a fault are judged as by the second implementation.
func TestWorlds(t *testing.T) {
	valid, refused := map[string]int{}, map[string]int{}
	for seed := range 250 {
		r := newSource(seed)
		threads := r.threads()
		w, e := world.New(r.config, r.list, threads)
		if e != api.OK {
			t.Fatal(e)
		}
		stay := r.Intn(15)
		for n := 0; !w.Done() && n < 100; n++ {
			w.Run(r.picks(len(threads), 1+r.Intn(1+4*n), stay))
			points := w.Shared().Points()
			wantCheck(t, r.config, r.list, threads, points, len(points), api.OK)
		}
		points := w.Shared().Points()
		for _, p := range points {
			valid[name(threads, p)]++
		}
		for range 50 {
			if len(points) == 0 {
				break
			}
			list := r.spoil(points)
			if n := r.wantSame(t, threads, list); n < len(list) {
				refused[name(threads, list[n])]++
			}
		}
	}
	for _, s := range possible() {
		if valid[s] < 20 || refused[s] < 20 {
			t.Errorf("%q is valid %d times and refused %d times: this tells little", s, valid[s], refused[s])
		}
	}
	if refused["none"] < 200 {
		t.Errorf("only %d points of no op", refused["none"])
	}
}

// P23.2: the points of a world in which there are more swaps than versions.
func TestWorldOfSwaps(t *testing.T) {
	r := newSource(1)
	threads := slices.Repeat([][]api.Op{slices.Repeat([]api.Op{swap("")}, 256)}, 17)
	w, e := world.New(r.config, r.list, threads)
	if e != api.OK {
		t.Fatal(e)
	}
	for !w.Done() {
		w.Run(r.picks(len(threads), 1000, 15))
	}
	points := w.Shared().Points()
	wantCheck(t, r.config, r.list, threads, points, len(points), api.OK)
	without := 0
	for _, p := range points {
		if p.Kind == isReturn && p.N == 0 {
			without++
		}
	}
	if without != 17*256-topVersion {
		t.Errorf("%d swaps return without a version", without)
	}
}

// P23.1: arbitrary points, one behind the other, also such as no world has: each one is judged as by the second implementation.
func TestArbitrary(t *testing.T) {
	valid, refused := map[string]int{}, map[string]int{}
	for seed := range 200 {
		r := newSource(seed + 1000)
		threads := append(r.threads(), []api.Op{r.op(), r.op(), r.op()})
		s := newSlow(r.config, r.list, threads)
		for range 250 {
			p := r.guess(s)
			if r.Intn(4) == 0 {
				p = r.change(p)
			}
			points := append(slices.Clip(s.points), p)
			if r.wantSame(t, threads, points) < len(points) {
				refused[name(threads, p)]++
				continue
			}
			valid[name(threads, p)]++
			s.add(p)
		}
	}
	for _, s := range possible() {
		if valid[s] < 20 || refused[s] < 20 {
			t.Errorf("%q is valid %d times and refused %d times: this tells little", s, valid[s], refused[s])
		}
	}
	if refused["none"] < 1000 {
		t.Errorf("only %d points of no op", refused["none"])
	}
}
