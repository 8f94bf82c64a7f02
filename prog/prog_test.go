package prog

import (
	"math"
	"slices"
	"testing"

	"mantlet/api"
	"mantlet/key"
)

// good returns a config.
func good() api.Config {
	return api.Config{Stripes: 2, Cap: 3, Times: times()}
}

// wantEmpty fails the test unless nothing was done to s.
func wantEmpty(t *testing.T, s *Shared) {
	t.Helper()
	if len(s.Points()) != 0 || len(s.Log()) != 0 || len(s.Keys()) != 0 || s.Gate() != (api.Gate{}) {
		t.Fatalf("points %v, log %v, keys %v, gate %v", s.Points(), s.Log(), s.Keys(), s.Gate())
	}
	for v := -1; v <= 20; v++ {
		if n := s.Stat(v); n != 0 {
			t.Fatalf("Stat(%d) = %d", v, n)
		}
	}
}

// P21.1: New with each error of chapter 18's Check, alone and with others.
func TestNewErrors(t *testing.T) {
	bad := every(true)
	bad.Proto = 3
	low := every(true)
	low.SPort = api.Span{Low: 2, High: 1}
	full := slices.Repeat(open(), 64)
	for _, x := range []struct {
		stripes, limit int
		list           []api.Rule
		want           api.Errno
	}{
		{1, 1, nil, api.OK}, {4096, 4095, nil, api.OK}, {2, 1, open(), api.OK}, {64, 4094, full, api.OK},
		{0, 1, nil, api.ErrArg}, {-1, 1, nil, api.ErrArg}, {3, 1, nil, api.ErrArg}, {8192, 1, nil, api.ErrArg}, {4095, 1, nil, api.ErrArg},
		{math.MinInt, 1, nil, api.ErrArg}, {math.MaxInt, 1, nil, api.ErrArg}, {1 << 32, 1, nil, api.ErrArg},
		{1, 0, nil, api.ErrArg}, {1, -1, nil, api.ErrArg}, {1, 4096, nil, api.ErrArg}, {1, math.MinInt, nil, api.ErrArg}, {1, 1<<32 + 1, nil, api.ErrArg},
		{1, 1, append(slices.Clone(full), every(true)), api.ErrMany}, {1, 1, append(slices.Clone(full), bad), api.ErrMany},
		{1, 1, []api.Rule{bad}, api.ErrArg}, {1, 1, append(slices.Clone(full)[:63], low), api.ErrArg}, {1, 1, []api.Rule{low, every(true)}, api.ErrArg},
		{0, 1, append(slices.Clone(full), bad), api.ErrArg}, {1, 0, append(slices.Clone(full), every(true)), api.ErrArg},
	} {
		s, e := New(api.Config{Stripes: x.stripes, Cap: x.limit}, x.list)
		if e != x.want || (s == nil) != (e != api.OK) {
			t.Errorf("New(%d, %d, %d rules) = %v, %d, want %d", x.stripes, x.limit, len(x.list), s, e, x.want)
		}
		if s != nil {
			wantEmpty(t, s)
		}
	}
}

// P21.1: a new shared state has the words of the gate and the counters, all 0, and a free mutex for each stripe and one for the rules.
func TestNewMemory(t *testing.T) {
	for stripes := 1; stripes <= 4096; stripes *= 2 {
		s, _ := New(api.Config{Stripes: stripes, Cap: 1}, nil)
		wantEmpty(t, s)
		if n := s.memory.Words(); n != 6 {
			t.Errorf("%d words", n)
		}
		for i := range 6 {
			if w := s.memory.Look(i); w != 0 {
				t.Errorf("word %d is %d", i, w)
			}
		}
		for i := range stripes + 1 {
			if !s.memory.Lock(0, i) {
				t.Errorf("no mutex %d of %d stripes", i, stripes)
			}
		}
		if s.memory.Lock(0, stripes+1) {
			t.Errorf("mutex %d of %d stripes", stripes+1, stripes)
		}
	}
}

// R4: the rules of version 0 are those that New was given, whatever becomes of that list.
func TestRulesAreKept(t *testing.T) {
	list := append(make([]api.Rule, 0, 9), only(true, api.UDP), every(false))
	before := slices.Clone(list[:cap(list)])
	s, _ := New(good(), list)
	if !slices.Equal(list[:cap(list)], before) {
		t.Error("the list has changed")
	}
	b := &bench{T: t, s: s}
	list[0], list[1] = every(false), every(true)
	b.whole(1, 0, somePair(api.UDP, 2, 0, 0, false).sent(0), verdict(accepted))
	b.whole(1, 1, somePair(api.TCP, 2, 0, 0, false).sent(opening), verdict(denied))
	// The list may also have become longer in place.
	list = append(list[:0], every(true), every(true), every(true))
	b.whole(1, 2, somePair(api.TCP, 2, 0, 0, false).sent(opening), verdict(denied))
	b.whole(1, 3, somePair(api.UDP, 2, 0, 1, false).sent(0), verdict(accepted))
}

// ops returns ops of every Kind, and of unknown ones.
func ops() []api.Op {
	p := somePair(api.TCP, 2, 1, 0, false)
	list := []api.Op{
		p.sent(opening), p.replied(answer), {Kind: isPacket}, {Kind: isPacket, B: []byte{1, 2, 3}},
		tick(5), tick(-5), swap(openText), swap("no rule"), swap(""), flush(), collect(),
	}
	for v := -1; v <= 6; v++ {
		list = append(list, stat(v))
	}
	for _, kind := range append(edges(), -1, 0, 7, 8, 9) {
		if kind < 1 || kind > 6 {
			list = append(list, api.Op{Kind: kind, N: 1, B: p.sent(opening).B, S: openText})
		}
	}
	return list
}

// P21.1: Begin performs no act of any op, whoever begins it and whatever its number.
func TestBegin(t *testing.T) {
	b := newBench(t)
	for _, x := range ops() {
		for _, thread := range []int{0, 1, 63, 64, 1000, math.MaxInt32 + 1, math.MaxInt} {
			for _, number := range []int{0, 1, -1, 255, 256, math.MinInt, math.MaxInt} {
				r := b.begin(thread, number, x)
				if r.Blocked() {
					t.Errorf("%v is blocked", x)
				}
			}
		}
	}
	wantEmpty(t, b.s)
	if b.s.memory.Words() != 6 {
		t.Errorf("%d words", b.s.memory.Words())
	}
}

// P21.1: Begin is nil for a negative thread, and for no shared state.
func TestBeginNothing(t *testing.T) {
	b := newBench(t)
	for _, x := range ops() {
		for _, n := range append(edges(), -2, -1, 0, 1) {
			if n < 0 && Begin(b.s, n, 0, x) != nil {
				t.Errorf("thread %d begins %v", n, x)
			}
			if Begin(nil, n, 0, x) != nil || Begin(nil, 0, n, x) != nil {
				t.Errorf("%v begins on nothing", x)
			}
			// Beyond the document: a shared state that New did not make has no memory.
			if Begin(new(Shared), n, 0, x) != nil {
				t.Errorf("%v begins on a zero Shared", x)
			}
		}
	}
	wantEmpty(t, b.s)
}

// P21.1, P21.2: all methods on nil receivers, and, beyond the document, on those that no function made.
func TestNil(t *testing.T) {
	for _, s := range []*Shared{nil, new(Shared)} {
		wantEmpty(t, s)
		if s.Points() != nil || s.Log() != nil || s.Keys() != nil {
			t.Errorf("points %v, log %v, keys %v", s.Points(), s.Log(), s.Keys())
		}
		for _, v := range edges() {
			if s.Stat(v) != 0 {
				t.Errorf("Stat(%d) = %d", v, s.Stat(v))
			}
		}
	}
	for _, r := range []*Run{nil, new(Run)} {
		for range 3 {
			if r.Step() || r.Blocked() {
				t.Error("a nil *Run performs an act, or waits")
			}
			if y, ok := r.Done(); y != (api.Reply{}) || ok {
				t.Errorf("a nil *Run is done with %v, %v", y, ok)
			}
		}
	}
}

// R4: the bytes of a packet are not changed, and their later changes make no difference.
func TestBytes(t *testing.T) {
	b := newBench(t)
	x := b.pairs["a"].sent(opening)
	x.B = append(make([]byte, 0, 200), x.B...)
	before := slices.Clone(x.B[:200])
	r := b.begin(1, 0, x)
	if !slices.Equal(x.B[:200], before) {
		t.Error("Begin changed the bytes")
	}
	clear(x.B)
	b.s.memory.Lock(9, 0)
	if r.Step() {
		t.Error("an act")
	}
	b.s.memory.Unlock(9, 0)
	for r.Step() {
	}
	if y, _ := r.Done(); y != verdict(accepted) {
		t.Errorf("reply %v", y)
	}
	if !slices.Equal(x.B, make([]byte, len(x.B))) || !slices.Equal(x.B[len(x.B):200], before[len(x.B):]) {
		t.Error("the bytes have changed")
	}
	if !slices.Equal(b.s.Keys(), b.keys("a")) {
		t.Errorf("keys %v", b.s.Keys())
	}
}

// The chapter's example.
func TestExample(t *testing.T) {
	s, _ := New(good(), nil)
	r := Begin(s, 0, 0, tick(5))
	for r.Step() {
	}
	var kinds []int
	for _, p := range s.Points() {
		kinds = append(kinds, p.Kind)
	}
	if !slices.Equal(kinds, []int{api.PtCall, api.PtTick, api.PtReturn}) {
		t.Errorf("points %v", s.Points())
	}
	want := []api.Access{{Thread: 0, Kind: api.MemLoad, Place: 0}, {Thread: 0, Kind: api.MemStore, Place: 0}}
	if !slices.Equal(s.Log(), want) {
		t.Errorf("log %v", s.Log())
	}
}

// P21.2: what Points, Log and Keys return is a new list each time, with its spare capacity.
func TestListsAreNew(t *testing.T) {
	b := newBench(t)
	for i, n := range []string{"a", "x", "b"} {
		b.whole(1, i, b.pairs[n].sent(opening), verdict(accepted))
	}
	points, log, keys := b.s.Points(), b.s.Log(), b.s.Keys()
	for range 3 {
		p, l, k := b.s.Points(), b.s.Log(), b.s.Keys()
		if !slices.Equal(p, points) || !slices.Equal(l, log) || !slices.Equal(k, keys) {
			t.Fatalf("points %v, log %v, keys %v, and before %v, %v, %v", p, l, k, points, log, keys)
		}
		clear(p[:cap(p)])
		clear(l[:cap(l)])
		clear(k[:cap(k)])
		// What is done in between must not write into lists that were handed out.
		b.whole(2, 0, tick(0), number(0))
		if len(p) > 0 && p[0] != (api.Point{}) || l[0] != (api.Access{}) || k[0] != (api.Key{}) {
			t.Fatal("a list that was handed out has changed")
		}
		for _, x := range p[:cap(p)] {
			if x != (api.Point{}) {
				t.Fatal("points are shared")
			}
		}
		for _, x := range l[:cap(l)] {
			if x != (api.Access{}) {
				t.Fatal("accesses are shared")
			}
		}
		points, log = b.s.Points(), b.s.Log()
	}
}

// P21.2: a mark that is filled does not change lists that were handed out before.
func TestMarkIsNew(t *testing.T) {
	b := newBench(t)
	b.whole(1, 0, b.pairs["a"].sent(opening), verdict(accepted))
	r := b.begin(2, 0, b.pairs["a"].replied(answer))
	r.does("lock 0 read 0 call", "unlock 0", "load 6", "load 0 mark")
	b.whole(3, 0, tick(1), number(1))
	before := b.s.Points()
	kept := slices.Clone(before)
	r.does("store 6 fill 1 a")
	if !slices.Equal(before, kept) || len(b.s.Points()) != len(kept)+1 {
		t.Error("a list that was handed out has changed")
	}
}

// R5: two shared states side by side, which share nothing.
func TestTwoStates(t *testing.T) {
	one, two, still := newBench(t), newBench(t), newBench(t)
	p := one.pairs["a"]
	r, q := one.begin(1, 0, p.sent(opening)), two.begin(1, 0, p.sent(opening))
	r.does("lock 0 read 0 call")
	two.same("the other state")
	q.does("lock 0 read 0 call", "load 0 read 2")
	r.does("load 0 read 2")
	two.whole(2, 0, tick(7), number(7))
	two.whole(2, 1, swap(shutText), number(1))
	one.same("the other state")
	r.does("store 0 write 0 act 1 a", "unlock 0", "load 1", "store 1 count 1 return 1 0")
	q.does("load 0", "load 0 read 3 act 3 a", "unlock 0", "load 3", "store 3 count 3 return 3 0")
	one.wantGate(0, 1, 0)
	two.wantGate(1, 0, 7)
	one.wantKeys("a")
	two.wantKeys()
	one.wantStats(1, 0, 0, 0, 0)
	two.wantStats(0, 0, 1, 0, 0)
	wantEmpty(t, still.s)
}

// P21.2: Gate, Stat and Keys behind each kind of op.
func TestProperties(t *testing.T) {
	b := benchOf(t, 4, 2, []api.Rule{only(true, api.TCP), only(true, api.ICMP)})
	is := func(version, clock int, stats []uint64, names ...string) {
		t.Helper()
		b.wantGate(version, len(names), clock)
		b.wantStats(stats...)
		b.wantKeys(names...)
	}
	is(0, 0, []uint64{0, 0, 0, 0, 0})
	b.whole(0, 0, b.pairs["x"].sent(opening), verdict(accepted))
	is(0, 0, []uint64{1, 0, 0, 0, 0}, "x")
	b.whole(0, 1, somePair(api.UDP, 4, 0, 0, false).sent(0), verdict(denied))
	is(0, 0, []uint64{1, 0, 1, 0, 0}, "x")
	b.whole(0, 2, tick(3), number(3))
	is(0, 3, []uint64{1, 0, 1, 0, 0}, "x")
	b.whole(1, 0, b.pairs["a"].sent(opening), verdict(accepted))
	is(0, 3, []uint64{2, 0, 1, 0, 0}, "a", "x")
	b.whole(1, 1, b.pairs["b"].sent(opening), verdict(isFull))
	is(0, 3, []uint64{2, 0, 1, 0, 1}, "a", "x")
	b.whole(1, 2, b.pairs["a"].sent(answer), verdict(invalid))
	is(0, 3, []uint64{2, 0, 1, 1, 1}, "a", "x")
	b.whole(1, 3, api.Op{Kind: isPacket, B: []byte{1}}, api.Reply{E: api.ErrShort, Verdict: malformed})
	is(0, 3, []uint64{2, 1, 1, 1, 1}, "a", "x")
	b.whole(1, 4, stat(1), number(2))
	b.whole(1, 5, stat(6), failed(api.ErrArg))
	is(0, 3, []uint64{2, 1, 1, 1, 1}, "a", "x")
	b.whole(1, 6, swap(openText), number(1))
	is(1, 3, []uint64{2, 1, 1, 1, 1}, "a", "x")
	b.whole(1, 7, swap("?"), failed(api.ErrText))
	b.whole(1, 8, api.Op{}, failed(api.ErrArg))
	is(1, 3, []uint64{2, 1, 1, 1, 1}, "a", "x")
	b.whole(1, 9, tick(times()[1]-3), number(times()[1]))
	is(1, times()[1], []uint64{2, 1, 1, 1, 1}, "a", "x")
	b.whole(2, 0, collect(), number(1))
	is(1, times()[1], []uint64{2, 1, 1, 1, 1}, "a")
	b.whole(2, 1, b.pairs["y"].sent(opening), verdict(accepted))
	is(1, times()[1], []uint64{3, 1, 1, 1, 1}, "a", "y")
	b.whole(2, 2, flush(), number(2))
	is(1, times()[1], []uint64{3, 1, 1, 1, 1})
}

// P21.2: Keys are in order across the stripes.
func TestKeysInOrder(t *testing.T) {
	b := benchOf(t, 64, 100, open())
	var want []api.Key
	for i := range 60 {
		p := somePair([]uint8{api.UDP, api.TCP, api.ICMP}[i%3], 64, i*37%64, 0, i%2 == 0)
		b.whole(i, 0, p.sent(opening), verdict(accepted))
		want = append(want, p.key())
	}
	slices.SortFunc(want, func(x, y api.Key) int {
		if key.Less(x, y) {
			return -1
		}
		return 1
	})
	if got := b.s.Keys(); !slices.Equal(got, want) {
		t.Errorf("keys %v, want %v", got, want)
	}
}
