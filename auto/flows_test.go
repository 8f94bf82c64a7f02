package auto

import (
	"math"
	"math/big"
	"math/rand"
	"slices"
	"testing"

	"mantlet/api"
	"mantlet/key"
)

// P18.1: Tick increases the clock; a negative number counts as 0.
func TestTick(t *testing.T) {
	a := build(t, 1, open())
	for _, x := range [][2]int{
		{0, 0}, {1, 1}, {1, 2}, {0, 2}, {-1, 2}, {math.MinInt, 2}, {math.MinInt + 1, 2}, {-2, 2}, {40, 42}, {math.MinInt32, 42}, {-topClock, 42},
		{1 << 32, 4294967338}, {topClock - 4294967339, topClock - 1}, {0, topClock - 1}, {-1, topClock - 1}, {1, topClock}, {1, topClock}, {-1, topClock}, {math.MaxInt, topClock}, {math.MinInt, topClock},
	} {
		a.Tick(x[0])
		wantGate(t, a, 0, 0, x[1])
	}
}

// P18.1: each number on each of several clocks, against unbounded integers; nothing else changes.
func TestTickEdges(t *testing.T) {
	numbers := append(limits(), topClock-1, topClock, topClock+1, topTime)
	for _, start := range []int{0, 1, 100, topClock - 4096, topClock - 1, topClock} {
		for _, n := range numbers {
			a := build(t, 2, open())
			wantAct(t, a, accepted, udp(low, high))
			a.Swap(open())
			a.Count(1)
			before := take(a)
			a.Tick(start)
			a.Tick(n)
			sum := new(big.Int).Add(big.NewInt(int64(start)), big.NewInt(int64(max(n, 0))))
			want := topClock
			if sum.Cmp(big.NewInt(topClock)) < 0 {
				want = int(sum.Int64())
			}
			before.gate.Clock = want
			wantShot(t, a, before)
		}
	}
}

// P18.3: Delete of a flow that is there, over, not there, twice.
func TestDelete(t *testing.T) {
	a := build(t, 4, open())
	one, two := keyOf(isUDP, low, high), keyOf(isTCP, low, high)
	if a.Delete(one) {
		t.Error("a flow that was never there")
	}
	wantAct(t, a, accepted, udp(low, high), tcp(high, low, opening))
	before := take(a)
	for range 2 {
		if a.Delete(one) || a.Delete(two) || a.Delete(api.Key{}) || a.Delete(keyOf(isICMP, low, high)) {
			t.Error("flows that are not over")
		}
		wantShot(t, a, before)
	}
	a.Tick(own()[1] - 1)
	if a.Delete(two) {
		t.Error("too early")
	}
	a.Tick(1)
	if a.Delete(one) {
		t.Error("the other flow")
	}
	wantGate(t, a, 0, 2, own()[1])
	if !a.Delete(two) {
		t.Error("not over")
	}
	wantKeys(t, a, one)
	wantNone(t, a, two)
	wantFlow(t, a, one, 8, 1, own()[8])
	if a.Delete(two) {
		t.Error("twice")
	}
	wantKeys(t, a, one)
	a.Tick(math.MaxInt)
	if a.Delete(two) || !a.Delete(one) || a.Delete(one) {
		t.Error("at the greatest clock")
	}
	wantKeys(t, a)
	wantGate(t, a, 0, 0, topClock)
}

// P18.3: Drop of a flow that is there, over, not there, twice.
func TestDrop(t *testing.T) {
	a := build(t, 4, open())
	one, two, three := keyOf(isICMP, low, high), keyOf(isTCP, low, high), keyOf(isUDP, low, high)
	if a.Drop(one) {
		t.Error("a flow that was never there")
	}
	wantAct(t, a, accepted, udp(low, high), tcp(high, low, opening), ping(low, high, isEcho))
	if !a.Drop(two) {
		t.Error("a flow that is not over")
	}
	wantKeys(t, a, one, three)
	wantNone(t, a, two)
	if a.Drop(two) || a.Drop(api.Key{}) {
		t.Error("twice")
	}
	wantKeys(t, a, one, three)
	a.Tick(5000)
	if !a.Drop(three) || a.Delete(three) || a.Drop(three) {
		t.Error("a flow that is over")
	}
	wantKeys(t, a, one)
	if !a.Delete(one) || a.Drop(one) {
		t.Error("a flow that was deleted")
	}
	wantGate(t, a, 0, 0, 5000)
	wantKeys(t, a)
}

// P18.3: a key with its ends exchanged is another key, and so is one that differs in a single part.
func TestKeysOfNoFlow(t *testing.T) {
	a := build(t, 4, open())
	wantAct(t, a, accepted, udp(low, high))
	a.Tick(10000)
	before := take(a)
	list := []api.Key{keyOf(isUDP, high, low), keyOf(isTCP, low, high), keyOf(0, low, high), {}}
	for i := range 2 {
		k := keyOf(isUDP, low, high)
		k.Addr[i]++
		list = append(list, k)
		k = keyOf(isUDP, low, high)
		k.Port[i]++
		list = append(list, k)
	}
	for _, k := range list {
		if a.Delete(k) || a.Drop(k) {
			t.Errorf("%v", k)
		}
		wantNone(t, a, k)
		wantShot(t, a, before)
	}
	if !a.Drop(keyOf(isUDP, low, high)) {
		t.Error("Drop")
	}
}

// P18.3: what was removed is forgotten: the same key begins anew.
func TestRemovedIsForgotten(t *testing.T) {
	for _, drop := range []bool{false, true} {
		a := build(t, 4, open())
		k := keyOf(isUDP, low, high)
		wantAct(t, a, accepted, udp(high, low), udp(low, high), udp(low, high))
		wantFlow(t, a, k, 9, 3, own()[9])
		a.Tick(own()[9])
		if drop && !a.Drop(k) || !drop && !a.Delete(k) {
			t.Fatal("not removed")
		}
		wantAct(t, a, accepted, udp(low, high), udp(low, high))
		wantFlow(t, a, k, 8, 2, own()[9]+own()[8])
	}
}

// P18.3: Count and Stat for -1 to 7 and the edges.
func TestCount(t *testing.T) {
	a := build(t, 4, open())
	wantAct(t, a, accepted, udp(low, high))
	before := take(a)
	none := edges()
	for _, v := range append(none, -5, -4, -3, -2, -1, 0, 6, 7, 8) {
		a.Count(v)
		if n := a.Stat(v); n != 0 {
			t.Errorf("Stat(%d) = %d", v, n)
		}
		wantShot(t, a, before)
	}
	for v := 1; v <= 5; v++ {
		for i := range 10 * v {
			a.Count(v)
			if n := a.Stat(v); n != uint64(i+1) {
				t.Errorf("Stat(%d) = %d, want %d", v, n, i+1)
			}
		}
		before.stats[v] = uint64(10 * v)
		wantShot(t, a, before)
	}
	for _, v := range append(none, -1, 0, 6, 7) {
		if n := a.Stat(v); n != 0 {
			t.Errorf("Stat(%d) = %d", v, n)
		}
		a.Count(v)
	}
	wantShot(t, a, before)
}

// P18.3: a counter stops at 2^64 - 1. No calls of Count could bring it there, so it is set.
func TestCountMost(t *testing.T) {
	for v := 1; v <= 5; v++ {
		a := build(t, 1, nil)
		a.stats[v] = math.MaxUint64 - 2
		for _, want := range []uint64{math.MaxUint64 - 1, math.MaxUint64, math.MaxUint64, math.MaxUint64} {
			a.Count(v)
			if n := a.Stat(v); n != want {
				t.Errorf("Stat(%d) = %d, want %d", v, n, want)
			}
		}
		for other := 1; other <= 5; other++ {
			if n := a.Stat(other); other != v && n != 0 {
				t.Errorf("Stat(%d) = %d", other, n)
			}
		}
	}
}

// P18.3: the keys are in the order of chapter 10's Less, whatever the order in which the flows came.
func TestKeysOrder(t *testing.T) {
	var packets []api.Packet
	ends := []end{{0, 0}, {0, 1}, {0, 65535}, {1, 0}, {1, 256}, {255, 1}, {256, 0}, {math.MaxInt32 + 1, 2}, {math.MaxUint32, 0}, {math.MaxUint32, 65535}}
	for _, from := range ends {
		for _, to := range ends {
			packets = append(packets, udp(from, to), ping(from, to, isEcho), tcp(from, to, opening))
		}
	}
	r := rand.New(rand.NewSource(181))
	var first []api.Key
	for round := range 4 {
		a := build(t, topCap, open())
		s, _ := newSlow(api.Config{Stripes: 4, Cap: topCap, Times: own()}, open())
		for _, p := range packets {
			a.Act(p)
			s.act(p)
		}
		keys := a.Keys()
		for i := range keys[1:] {
			if !key.Less(keys[i], keys[i+1]) {
				t.Fatalf("%v ahead of %v", keys[i], keys[i+1])
			}
		}
		wantKeys(t, a, s.keys()...)
		if round == 0 {
			first = keys
		}
		if len(keys) != 165 || !slices.Equal(keys, first) {
			t.Fatalf("%d keys in round %d", len(keys), round)
		}
		r.Shuffle(len(packets), func(i, j int) { packets[i], packets[j] = packets[j], packets[i] })
	}
}

// R4: Keys returns a new list each time: writing into it, or behind it, changes nothing.
func TestKeysNew(t *testing.T) {
	a := build(t, 9, open())
	wantAct(t, a, accepted, udp(low, high), udp(low, middle), tcp(low, high, opening))
	want := slices.Clone(a.Keys())
	for range 3 {
		one, two := a.Keys(), a.Keys()
		for i := range one {
			one[i] = api.Key{}
		}
		one = one[:cap(one)]
		for i := range one {
			one[i] = api.Key{Proto: 255}
		}
		if !slices.Equal(two, want) {
			t.Fatalf("%v, want %v", two, want)
		}
		wantKeys(t, a, want...)
	}
	old := a.Keys()
	a.Drop(want[0])
	wantAct(t, a, accepted, ping(low, high, isEcho))
	if !slices.Equal(old, want) {
		t.Errorf("an older list was changed: %v", old)
	}
}

// P18.3: Look, Keys, Stat and Gate change nothing, also for flows that are over.
func TestAskingChangesNothing(t *testing.T) {
	a := build(t, 9, open())
	wantAct(t, a, accepted, udp(low, high), tcp(low, high, opening))
	a.Tick(5000)
	before := take(a)
	for range 5 {
		wantShot(t, a, before)
	}
	wantFlow(t, a, keyOf(isUDP, low, high), 8, 1, own()[8])
	wantFlow(t, a, keyOf(isTCP, low, high), 1, 1, own()[1])
}

// Every method on a nil *Auto.
func TestNil(t *testing.T) {
	var a *Auto
	a.Tick(5)
	a.Count(1)
	for _, list := range [][]api.Rule{nil, open(), wrong(), repeat(every(true), 65)} {
		if n, e := a.Swap(list); n != 0 || e != api.ErrArg {
			t.Errorf("Swap of %d rules: %d, %d", len(list), n, e)
		}
	}
	for _, p := range append(openers(), closers()...) {
		if v := a.Act(p); v != 0 {
			t.Errorf("Act(%+v) = %d", p, v)
		}
	}
	for _, k := range []api.Key{{}, keyOf(isUDP, low, high)} {
		if a.Delete(k) || a.Drop(k) {
			t.Errorf("%v was removed", k)
		}
		if f, ok := a.Look(k); f != (api.Flow{}) || ok {
			t.Errorf("Look: %+v, %v", f, ok)
		}
	}
	for v := -1; v <= 7; v++ {
		a.Count(v)
		if n := a.Stat(v); n != 0 {
			t.Errorf("Stat(%d) = %d", v, n)
		}
	}
	if g, keys := a.Gate(), a.Keys(); g != (api.Gate{}) || len(keys) != 0 {
		t.Errorf("%+v, %v", g, keys)
	}
}

// R1: an Auto that New did not make has no room for flows; no method of it panics.
func TestZero(t *testing.T) {
	a := new(Auto)
	wantAct(t, a, denied, openers()...)
	if n, e := a.Swap(open()); n != 1 || e != api.OK {
		t.Error(n, e)
	}
	wantAct(t, a, isFull, openers()...)
	a.Tick(3)
	a.Count(2)
	if a.Delete(api.Key{}) || a.Drop(api.Key{}) || a.Stat(2) != 1 {
		t.Error("removed, or not counted")
	}
	wantNone(t, a, api.Key{})
	wantKeys(t, a)
	wantGate(t, a, 1, 0, 3)
}

// Two firewalls side by side share nothing: neither rules, nor flows, nor counters, nor the clock.
func TestTwo(t *testing.T) {
	a, b := build(t, 2, open()), build(t, 3, open())
	start := take(b)
	wantAct(t, a, accepted, udp(low, high), tcp(low, high, opening))
	wantShot(t, b, start)
	a.Tick(7)
	wantShot(t, b, start)
	a.Count(3)
	wantShot(t, b, start)
	if n, e := a.Swap(shut()); n != 1 || e != api.OK {
		t.Fatal(n, e)
	}
	wantShot(t, b, start)
	before := take(a)
	wantAct(t, b, accepted, udp(high, low), udp(high, middle), tcp(high, low, opening))
	if !b.Drop(keyOf(isUDP, low, high)) {
		t.Fatal("Drop")
	}
	b.Count(3)
	b.Count(3)
	b.Tick(1)
	wantShot(t, a, before)
	wantKeys(t, b, keyOf(isTCP, low, high), keyOf(isUDP, middle, high))
	wantAct(t, a, accepted, udp(low, high))
	wantAct(t, b, accepted, udp(low, high))
	wantFlow(t, a, keyOf(isUDP, low, high), 8, 2, 7+own()[8])
	wantFlow(t, b, keyOf(isUDP, low, high), 8, 1, 1+own()[8])
}

// call is a call of one of the methods.
type call struct {
	kind int
	n    int
	p    api.Packet
	k    api.Key
	list []api.Rule
}

// The kinds of calls.
const (
	callAct = iota
	callTick
	callSwap
	callDelete
	callDrop
	callCount
	callStat
	callLook
	callKinds
)

// result is what a call returned.
type result struct {
	n    int
	e    api.Errno
	ok   bool
	flow api.Flow
	stat uint64
}

// do makes the call.
func (c call) do(a *Auto) (r result) {
	switch c.kind {
	case callAct:
		r.n = a.Act(c.p)
	case callTick:
		a.Tick(c.n)
	case callSwap:
		r.n, r.e = a.Swap(c.list)
	case callDelete:
		r.ok = a.Delete(c.k)
	case callDrop:
		r.ok = a.Drop(c.k)
	case callCount:
		a.Count(c.n)
	case callStat:
		r.stat = a.Stat(c.n)
	case callLook:
		r.flow, r.ok = a.Look(c.k)
	}
	return r
}

// doSlow makes the call of the second implementation.
func (c call) doSlow(s *slow) (r result) {
	switch c.kind {
	case callAct:
		r.n = s.act(c.p)
	case callTick:
		s.tick(c.n)
	case callSwap:
		r.n, r.e = s.swap(c.list)
	case callDelete:
		r.ok = s.remove(c.k, false)
	case callDrop:
		r.ok = s.remove(c.k, true)
	case callCount:
		s.count(c.n)
	case callStat:
		r.stat = s.stat(c.n)
	case callLook:
		r.flow, r.ok = s.look(c.k)
	}
	return r
}

// take asks for everything.
func (s *slow) take() shot {
	x := shot{gate: s.gate(), keys: s.keys()}
	for _, k := range x.keys {
		f, _ := s.look(k)
		x.flows = append(x.flows, f)
	}
	for i := range x.stats {
		x.stats[i] = s.stat(i)
	}
	return x
}

// source makes arbitrary calls.
type source struct {
	*rand.Rand
	ends []end
	kept []api.Packet // those that were sent not long ago
}

// newSource returns a source whose packets have so many endpoints.
func newSource(seed int64, ends int) *source {
	s := &source{Rand: rand.New(rand.NewSource(seed))}
	for range ends {
		s.ends = append(s.ends, end{uint32(s.Intn(4)), uint16(s.Intn(3))})
	}
	return s
}

// packet returns a packet of few different ones.
func (s *source) packet() api.Packet {
	p := send([]uint8{isTCP, isTCP, isTCP, isUDP, isICMP, isICMP, 0, 47}[s.Intn(8)], s.ends[s.Intn(len(s.ends))], s.ends[s.Intn(len(s.ends))])
	if len(s.kept) > 0 && s.Intn(3) > 0 {
		p = s.kept[s.Intn(len(s.kept))]
		if s.Intn(2) == 0 {
			p = key.Turn(p)
		}
	}
	p.Flags = []uint8{opening, opening, answer, plain, plain, ending, reset, uint8(s.Intn(256))}[s.Intn(8)]
	if s.Intn(3) == 0 {
		p.Kind = []uint8{isEcho, isReply, uint8(s.Intn(256))}[s.Intn(3)]
	}
	if len(s.kept) < 6 {
		s.kept = append(s.kept, p)
	} else {
		s.kept[s.Intn(len(s.kept))] = p
	}
	return p
}

// rule returns a rule that matches many of the packets.
func (s *source) rule() api.Rule {
	r := every(s.Intn(4) > 0)
	r.Proto = []uint8{0, 0, 0, isTCP, isUDP, isICMP}[s.Intn(6)]
	if s.Intn(3) == 0 {
		r.Src = api.Net{Addr: uint32(s.Intn(4)), Bits: 32}
	}
	if s.Intn(3) == 0 {
		r.Dst = api.Net{Addr: 2 * uint32(s.Intn(2)), Bits: 31}
	}
	if s.Intn(4) == 0 {
		r.DPort = api.Span{Low: uint16(s.Intn(2)), High: 1 + uint16(s.Intn(2))}
	}
	return r
}

// rules returns rules, seldom such that may not be used.
func (s *source) rules() []api.Rule {
	if s.Intn(3) == 0 {
		return open()
	}
	var list []api.Rule
	for range s.Intn(5) {
		list = append(list, s.rule())
	}
	switch s.Intn(8) {
	case 0:
		list = append(list, wrong()[s.Intn(len(wrong()))])
	case 1:
		list = append(list, repeat(s.rule(), 61+s.Intn(6))...)
	}
	return list
}

// call returns a call: mostly a packet's.
func (s *source) call() call {
	c := call{kind: callAct, p: s.packet()}
	if s.Intn(3) == 0 {
		c.kind = s.Intn(callKinds)
	}
	c.k, _ = slowKey(c.p)
	switch c.kind {
	case callTick:
		c.n = s.Intn(30) - 3
		if s.Intn(200) == 0 {
			c.n = edges()[s.Intn(len(edges()))]
		}
	case callSwap:
		c.list = s.rules()
	case callCount, callStat:
		c.n = s.Intn(10) - 2
		if s.Intn(10) == 0 {
			c.n = edges()[s.Intn(len(edges()))]
		}
	}
	return c
}

// config returns a config for few flows, with short timeouts.
func (s *source) config() api.Config {
	c := api.Config{Stripes: 1 << s.Intn(13), Cap: 1 + s.Intn(6)}
	if s.Intn(4) == 0 {
		c.Cap = topCap
	}
	for i := range c.Times {
		c.Times[i] = s.Intn(60) - 5
	}
	return c
}

// P18.1, P18.2, P18.3: long arbitrary sequences of all calls, against the second implementation.
func TestArbitrary(t *testing.T) {
	verdicts := map[int]int{}
	removed := map[int]int{}
	refused := map[api.Errno]int{}
	for seed := range 60 {
		r := newSource(int64(seed), 2+seed%7)
		c, list := r.config(), open()
		a, e := New(c, list)
		s, _ := newSlow(c, list)
		if e != api.OK {
			t.Fatal(e)
		}
		for i := range 2500 {
			x := r.call()
			got, want := x.do(a), x.doSlow(s)
			if got != want {
				t.Fatalf("seed %d, call %d, %+v: %+v, want %+v", seed, i, x, got, want)
			}
			if got, want := take(a), s.take(); !got.equal(want) {
				t.Fatalf("seed %d, call %d, %+v:\n%+v, want\n%+v", seed, i, x, got, want)
			}
			switch {
			case x.kind == callAct:
				verdicts[got.n]++
			case x.kind == callSwap:
				refused[got.e]++
			case got.ok:
				removed[x.kind]++
			}
		}
	}
	for _, v := range []int{accepted, denied, invalid, isFull} {
		if verdicts[v] < 1500 {
			t.Errorf("%d verdicts %d: the arbitrary ones tell little", verdicts[v], v)
		}
	}
	if removed[callDelete] < 200 || removed[callDrop] < 200 || refused[api.ErrArg] < 100 || refused[api.ErrMany] < 100 {
		t.Errorf("%v removed, %v refused: the arbitrary ones tell little", removed, refused)
	}
}

// R5: the same sequence of calls returns the same each time, also when another firewall is used in between.
func TestSameAgain(t *testing.T) {
	for seed := range 10 {
		var before []result
		var shots []shot
		for round := range 3 {
			r := newSource(int64(1000+seed), 4)
			c := r.config()
			a, _ := New(c, open())
			other, _ := New(api.Config{Stripes: 1, Cap: 2}, open())
			for i := range 600 {
				x := r.call()
				got, now := x.do(a), take(a)
				if round == 0 {
					before, shots = append(before, got), append(shots, now)
					continue
				}
				if got != before[i] || !now.equal(shots[i]) {
					t.Fatalf("seed %d, round %d, call %d: %+v, and before %+v", seed, round, i, got, before[i])
				}
				if round == 2 {
					call{kind: (i + 1) % callKinds, n: i % 7, p: x.p, k: x.k, list: shut()}.do(other)
				}
			}
		}
	}
}
