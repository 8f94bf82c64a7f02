package auto

import (
	"math"
	"slices"
	"testing"

	"mantlet/api"
)

// P18.2: Accept on a flow that is created, for each protocol that has flows.
func TestActCreates(t *testing.T) {
	for _, x := range []struct {
		p     api.Packet
		state int
	}{
		{tcp(low, high, opening), 1}, {tcp(low, high, opening+8+32), 1}, {udp(low, high), 8}, {ping(low, high, isEcho), 8},
	} {
		a := build(t, 1, open())
		a.Tick(1000)
		wantAct(t, a, accepted, x.p)
		k := keyOf(x.p.Proto, low, high)
		wantKeys(t, a, k)
		wantFlow(t, a, k, x.state, 1, 1000+own()[x.state])
		wantGate(t, a, 0, 1, 1000)
	}
}

// P18.2: Accept on a flow that goes on, in all of the states, with the Until of the next one.
func TestActGoesOn(t *testing.T) {
	a := build(t, 3, open())
	k := keyOf(isTCP, low, high)
	clock := 0
	for i, x := range []struct {
		p     api.Packet
		state int
	}{
		{tcp(low, high, opening), 1}, {tcp(low, high, opening), 1}, {tcp(high, low, answer), 2}, {tcp(high, low, answer), 2},
		{tcp(low, high, opening), 2}, {tcp(low, high, plain), 3}, {tcp(high, low, plain), 3}, {tcp(low, high, ending), 4},
		{tcp(high, low, plain), 4}, {tcp(high, low, ending), 6}, {tcp(low, high, plain), 6}, {tcp(high, low, reset), 7},
	} {
		wantAct(t, a, accepted, x.p)
		wantFlow(t, a, k, x.state, i+1, clock+own()[x.state])
		wantKeys(t, a, k)
		clock += 10 + i
		a.Tick(10 + i)
	}
}

// P18.2: Accept on a flow whose other end ends it first.
func TestActEndedByReply(t *testing.T) {
	a := build(t, 3, open())
	k := keyOf(isTCP, low, high)
	for i, x := range []struct {
		p     api.Packet
		state int
	}{
		{tcp(low, high, opening), 1}, {tcp(high, low, answer), 2}, {tcp(low, high, plain), 3}, {tcp(high, low, ending), 5},
		{tcp(low, high, plain), 5}, {tcp(high, low, ending), 5}, {tcp(low, high, ending), 6}, {tcp(high, low, plain), 6},
	} {
		wantAct(t, a, accepted, x.p)
		wantFlow(t, a, k, x.state, i+1, own()[x.state])
	}
}

// P18.2: Accept on flows of UDP and ICMP that go on.
func TestActTalks(t *testing.T) {
	for _, x := range []struct{ ask, back api.Packet }{
		{udp(low, high), udp(high, low)},
		{ping(low, high, isEcho), ping(high, low, isReply)},
	} {
		a := build(t, 1, open())
		k := keyOf(x.ask.Proto, low, high)
		wantAct(t, a, accepted, x.ask)
		a.Tick(1)
		wantAct(t, a, accepted, x.ask)
		wantFlow(t, a, k, 8, 2, 1+own()[8])
		a.Tick(1)
		wantAct(t, a, accepted, x.back)
		wantFlow(t, a, k, 9, 3, 2+own()[9])
		a.Tick(1)
		wantAct(t, a, accepted, x.ask)
		wantFlow(t, a, k, 9, 4, 3+own()[9])
		wantGate(t, a, 0, 1, 3)
	}
}

// P18.2: Invalid on a flow: only its Seq increases.
func TestActInvalidOnFlow(t *testing.T) {
	for _, x := range []struct {
		begin []api.Packet
		state int
		bad   []api.Packet
	}{
		{
			[]api.Packet{tcp(low, high, opening)}, 1,
			[]api.Packet{tcp(low, high, plain), tcp(high, low, opening), tcp(low, high, answer), tcp(high, low, plain), tcp(low, high, 0), tcp(low, high, 255)},
		},
		{
			[]api.Packet{tcp(low, high, opening), tcp(high, low, answer), tcp(low, high, plain)}, 3,
			[]api.Packet{tcp(low, high, opening), tcp(high, low, answer), tcp(high, low, reset+1)},
		},
		{
			[]api.Packet{tcp(low, high, opening), tcp(high, low, reset)}, 7,
			[]api.Packet{tcp(low, high, opening), tcp(low, high, plain), tcp(high, low, ending)},
		},
		{
			[]api.Packet{ping(low, high, isEcho)}, 8,
			[]api.Packet{ping(high, low, isEcho), ping(low, high, isReply), ping(low, high, 3), ping(high, low, 3)},
		},
		{
			[]api.Packet{ping(low, high, isEcho), ping(high, low, isReply)}, 9,
			[]api.Packet{ping(high, low, isEcho), ping(low, high, isReply)},
		},
	} {
		a := build(t, 2, open())
		a.Tick(50)
		wantAct(t, a, accepted, x.begin...)
		k := keyOf(x.begin[0].Proto, low, high)
		until, seq := 50+own()[x.state], len(x.begin)
		wantFlow(t, a, k, x.state, seq, until)
		for i, p := range x.bad {
			a.Tick(1)
			wantAct(t, a, invalid, p)
			wantFlow(t, a, k, x.state, seq+i+1, until)
			wantKeys(t, a, k)
		}
		wantGate(t, a, 0, 1, 50+len(x.bad))
	}
}

// closers returns packets that open no flow.
func closers() []api.Packet {
	return []api.Packet{
		tcp(low, high, plain), tcp(low, high, answer), tcp(low, high, ending), tcp(low, high, reset), tcp(low, high, 0), tcp(low, high, 1+2),
		ping(low, high, isReply), ping(low, high, 3), ping(low, high, 255), send(0, low, high), send(2, low, high), send(255, low, high),
	}
}

// openers returns packets that open a flow.
func openers() []api.Packet {
	return []api.Packet{tcp(low, high, opening), udp(low, high), ping(low, high, isEcho), tcp(high, low, opening), udp(high, low), ping(high, low, isEcho)}
}

// P18.2: packets without a flow that are refused leave nothing; which verdict comes first: Denied, Invalid, Full.
func TestActRefused(t *testing.T) {
	for _, list := range [][]api.Rule{nil, shut(), {every(false), every(true)}, {only(true, 1), only(true, 6), only(true, 17)}, open()} {
		for _, crowded := range []bool{false, true} {
			a := build(t, 1, open())
			if crowded {
				wantAct(t, a, accepted, udp(middle, high))
			}
			if _, e := a.Swap(list); e != api.OK {
				t.Fatal(e)
			}
			before := take(a)
			for _, p := range append(closers(), openers()...) {
				opens := slices.Contains(openers(), p)
				admits := len(list) > 0 && list[0].Accept && (len(list) == 1 || p.Proto == 1 || p.Proto == 6 || p.Proto == 17)
				want := accepted
				switch {
				case !admits:
					want = denied
				case !opens:
					want = invalid
				case crowded:
					want = isFull
				}
				wantAct(t, a, want, p)
				if want == accepted {
					wantKeys(t, a, keyOf(p.Proto, low, high))
					a.Drop(keyOf(p.Proto, low, high))
				}
				wantShot(t, a, before)
			}
		}
	}
}

// P18.2: which verdict comes first, written out, in a firewall that is full.
func TestActOrder(t *testing.T) {
	to := every(true)
	to.DPort = api.Span{Low: middle.port, High: middle.port}
	a := build(t, 1, []api.Rule{only(false, isICMP), only(true, isTCP), to})
	wantAct(t, a, accepted, tcp(middle, high, opening))
	wantAct(t, a, denied, ping(low, high, isReply), ping(low, middle, isEcho), udp(low, high), send(2, low, high))
	wantAct(t, a, invalid, tcp(low, high, plain), send(2, low, middle))
	wantAct(t, a, isFull, tcp(low, high, opening), udp(low, middle))
	wantKeys(t, a, keyOf(isTCP, middle, high))
	wantFlow(t, a, keyOf(isTCP, middle, high), 1, 1, own()[1])
}

// P18.2: the first rule that matches is asked by the packet as it is, not by its key.
func TestActFirstRule(t *testing.T) {
	from := every(true)
	from.Src = api.Net{Addr: high.addr, Bits: 32}
	to := every(false)
	to.DPort = api.Span{Low: low.port, High: low.port}
	a := build(t, 9, []api.Rule{to, from})
	wantAct(t, a, denied, udp(high, low), udp(low, high), udp(low, middle))
	wantAct(t, a, accepted, udp(high, middle))
	wantAct(t, a, denied, udp(middle, end{high.addr, 81}))
	if _, e := a.Swap([]api.Rule{from, to}); e != api.OK {
		t.Fatal(e)
	}
	wantAct(t, a, accepted, udp(high, low), udp(low, high))
	wantKeys(t, a, keyOf(isUDP, low, high), keyOf(isUDP, middle, high))
}

// P18.2: Full at exactly Cap flows, and not any more when one of them is removed.
func TestActFull(t *testing.T) {
	for _, most := range []int{1, 2, 3, 17} {
		a := build(t, most, open())
		for i := range most {
			wantAct(t, a, accepted, udp(end{uint32(i), 1}, high))
			wantGate(t, a, 0, i+1, 0)
		}
		before := take(a)
		for i := range 5 {
			wantAct(t, a, isFull, udp(end{uint32(most + i), 1}, high), tcp(low, high, opening), ping(high, low, isEcho))
		}
		wantShot(t, a, before)
		wantAct(t, a, accepted, udp(high, end{0, 1}))
		if !a.Drop(keyOf(isUDP, end{0, 1}, high)) {
			t.Fatal("Drop")
		}
		wantAct(t, a, accepted, tcp(low, high, opening))
		wantAct(t, a, isFull, udp(end{0, 1}, high))
		wantGate(t, a, 0, most, 0)
	}
}

// P18.2, P18.3: the greatest Cap: 4095 flows, each of which is there, in order.
func TestActGreatestCap(t *testing.T) {
	a := build(t, topCap, open())
	var want []api.Key
	for i := range topCap {
		from := end{uint32(topCap - i), uint16(i)}
		wantAct(t, a, accepted, udp(from, high))
		k, _ := slowKey(udp(from, high))
		want = append(want, k)
	}
	wantGate(t, a, 0, topCap, 0)
	wantAct(t, a, isFull, udp(low, middle))
	wantGate(t, a, 0, topCap, 0)
	slices.SortFunc(want, func(x, y api.Key) int { return slices.Compare(ranks(x), ranks(y)) })
	wantKeys(t, a, want...)
	for _, k := range want {
		wantFlow(t, a, k, 8, 1, own()[8])
	}
	if !a.Drop(want[0]) {
		t.Fatal("Drop")
	}
	wantGate(t, a, 0, topCap-1, 0)
	wantAct(t, a, accepted, udp(low, middle))
	wantAct(t, a, isFull, udp(middle, end{100, 1}))
	a.Tick(own()[8])
	for _, k := range a.Keys() {
		if !a.Delete(k) {
			t.Fatalf("Delete(%v)", k)
		}
	}
	wantKeys(t, a)
}

// P18.2: a flow that is over by the clock is removed by a packet of it, and is judged as if it had not been there.
func TestActOverByClock(t *testing.T) {
	k := keyOf(isTCP, low, high)
	for _, x := range []struct {
		list    []api.Rule
		p       api.Packet
		verdict int
		higher  bool
	}{
		{open(), tcp(low, high, opening), accepted, false},
		{open(), tcp(high, low, opening), accepted, true},
		{open(), tcp(high, low, answer), invalid, false},
		{open(), tcp(low, high, plain), invalid, false},
		{open(), tcp(low, high, reset), invalid, false},
		{shut(), tcp(low, high, opening), denied, false},
		{shut(), tcp(high, low, answer), denied, false},
		{nil, tcp(low, high, plain), denied, false},
	} {
		for _, late := range []int{0, 1, 1000, math.MaxInt} {
			a := build(t, 2, open())
			wantAct(t, a, accepted, tcp(low, high, opening), udp(low, high))
			if _, e := a.Swap(x.list); e != api.OK {
				t.Fatal(e)
			}
			a.Tick(own()[1])
			a.Tick(late)
			clock := a.Gate().Clock
			wantKeys(t, a, k, keyOf(isUDP, low, high))
			wantAct(t, a, x.verdict, x.p)
			if x.verdict != accepted {
				wantKeys(t, a, keyOf(isUDP, low, high))
				wantNone(t, a, k)
				continue
			}
			wantKeys(t, a, k, keyOf(isUDP, low, high))
			wantFlow(t, a, k, 1, 1, min(clock+own()[1], topClock))
			if late == math.MaxInt {
				continue
			}
			if x.higher {
				wantAct(t, a, accepted, tcp(low, high, answer))
			} else {
				wantAct(t, a, accepted, tcp(high, low, answer))
			}
			wantFlow(t, a, k, 2, 2, clock+own()[2])
		}
	}
}

// P18.2: one tick earlier the flow goes on.
func TestActNotYetOver(t *testing.T) {
	a := build(t, 1, open())
	k := keyOf(isTCP, low, high)
	wantAct(t, a, accepted, tcp(low, high, opening))
	a.Tick(own()[1] - 1)
	wantAct(t, a, accepted, tcp(high, low, answer))
	wantFlow(t, a, k, 2, 2, own()[1]-1+own()[2])
	a.Tick(own()[2] - 1)
	wantAct(t, a, invalid, tcp(high, low, plain))
	wantFlow(t, a, k, 2, 3, own()[1]-1+own()[2])
	a.Tick(1)
	wantAct(t, a, invalid, tcp(low, high, plain))
	wantKeys(t, a)
}

// P18.2: flows that are over stay while only packets of other flows come, and count for Full.
func TestActOthersStay(t *testing.T) {
	a := build(t, 3, open())
	wantAct(t, a, accepted, udp(low, high), tcp(low, high, opening), udp(low, middle))
	all := []api.Key{keyOf(isTCP, low, high), keyOf(isUDP, low, middle), keyOf(isUDP, low, high)}
	a.Tick(10000)
	before := take(a)
	wantAct(t, a, isFull, udp(middle, high), ping(low, high, isEcho), udp(end{low.addr, low.port + 1}, high))
	wantAct(t, a, invalid, tcp(low, middle, plain))
	wantShot(t, a, before)
	wantKeys(t, a, all...)
	wantAct(t, a, invalid, tcp(high, low, plain))
	wantKeys(t, a, all[1:]...)
	wantAct(t, a, accepted, udp(middle, high))
	wantAct(t, a, isFull, tcp(low, high, opening))
	wantFlow(t, a, all[1], 8, 1, own()[8])
	wantFlow(t, a, all[2], 8, 1, own()[8])
	wantAct(t, a, accepted, udp(high, low))
	wantFlow(t, a, all[2], 8, 1, 10000+own()[8])
}

// wear opens a flow by first and sends p until the flow's Seq is MaxSeq.
func wear(t *testing.T, a *Auto, first, p api.Packet, verdict int) api.Key {
	t.Helper()
	wantAct(t, a, accepted, first)
	for range topSeq - 2 {
		if a.Act(p) != verdict {
			t.Fatalf("another verdict than %d on %+v", verdict, p)
		}
	}
	k, _ := slowKey(first)
	if f, ok := a.Look(k); f.Seq != topSeq-1 || !ok || a.Delete(k) {
		t.Fatalf("flow %+v, %v, or it is over", f, ok)
	}
	wantAct(t, a, verdict, p)
	return k
}

// P18.2: a flow whose Seq is MaxSeq is over: it is removed by a packet of it, and stays while others come.
func TestActOverBySeq(t *testing.T) {
	a := build(t, 2, open())
	one := wear(t, a, udp(low, high), udp(high, low), accepted)
	wantFlow(t, a, one, 9, topSeq, own()[9])
	two := wear(t, a, ping(low, high, isEcho), ping(low, high, isReply), invalid)
	wantFlow(t, a, two, 8, topSeq, own()[8])

	wantAct(t, a, isFull, udp(low, middle))
	wantKeys(t, a, two, one)
	wantAct(t, a, accepted, udp(high, low))
	wantFlow(t, a, one, 8, 1, own()[8])
	wantAct(t, a, accepted, udp(low, high))
	wantFlow(t, a, one, 9, 2, own()[9])
	wantAct(t, a, invalid, ping(high, low, isReply))
	wantKeys(t, a, one)
	wantGate(t, a, 0, 1, 0)
}

// P18.2, P18.3: a flow whose Seq is MaxSeq is over for Delete too, and is removed where the packet is denied.
func TestActOverBySeqRefused(t *testing.T) {
	a := build(t, 2, open())
	one := wear(t, a, udp(low, high), udp(low, high), accepted)
	if !a.Delete(one) || a.Delete(one) {
		t.Fatal("Delete")
	}
	wantKeys(t, a)
	one = wear(t, a, udp(high, low), udp(high, low), accepted)
	if _, e := a.Swap(nil); e != api.OK {
		t.Fatal(e)
	}
	wantFlow(t, a, one, 8, topSeq, own()[8])
	wantAct(t, a, denied, udp(low, high), udp(high, low))
	wantKeys(t, a)
}

// P18.2: the direction: who opened the flow is remembered, whichever end that is.
func TestActDirection(t *testing.T) {
	for _, x := range []struct {
		lower, higher end
	}{
		{low, high}, {end{1, 80}, end{1, 81}}, {end{1, 80}, end{2, 80}}, {end{1, 65535}, end{2, 0}},
		{end{0, 0}, end{math.MaxUint32, 65535}}, {end{math.MaxInt32, 9}, end{math.MaxInt32 + 1, 8}}, {end{3, 32767}, end{3, 32768}},
	} {
		for _, from := range []end{x.lower, x.higher} {
			to := x.lower
			if from == x.lower {
				to = x.higher
			}
			a := build(t, 3, open())
			k := keyOf(isTCP, x.lower, x.higher)
			wantAct(t, a, accepted, tcp(from, to, opening))
			wantAct(t, a, invalid, tcp(to, from, opening), tcp(from, to, answer))
			wantFlow(t, a, k, 1, 3, own()[1])
			wantAct(t, a, accepted, tcp(to, from, answer))
			wantAct(t, a, invalid, tcp(to, from, plain), tcp(to, from, ending))
			wantAct(t, a, accepted, tcp(from, to, plain), tcp(to, from, plain), tcp(from, to, ending))
			wantFlow(t, a, k, 4, 9, own()[4])
			wantAct(t, a, accepted, tcp(to, from, ending))
			wantFlow(t, a, k, 6, 10, own()[6])

			wantAct(t, a, accepted, ping(from, to, isEcho))
			wantAct(t, a, invalid, ping(to, from, isEcho), ping(from, to, isReply))
			wantAct(t, a, accepted, ping(to, from, isReply))
			wantFlow(t, a, keyOf(isICMP, x.lower, x.higher), 9, 4, own()[9])

			wantAct(t, a, accepted, udp(from, to), udp(from, to))
			wantFlow(t, a, keyOf(isUDP, x.lower, x.higher), 8, 2, own()[8])
			wantAct(t, a, accepted, udp(to, from), udp(from, to))
			wantFlow(t, a, keyOf(isUDP, x.lower, x.higher), 9, 4, own()[9])
			wantKeys(t, a, keyOf(isICMP, x.lower, x.higher), k, keyOf(isUDP, x.lower, x.higher))
		}
	}
}

// P18.2: the direction is that of the opening, also behind a packet that was refused and behind many packets.
func TestActDirectionStays(t *testing.T) {
	a := build(t, 1, open())
	k := keyOf(isUDP, low, high)
	wantAct(t, a, accepted, udp(high, low))
	for i := range 20 {
		wantAct(t, a, accepted, udp(high, low))
		wantFlow(t, a, k, 8, i+2, own()[8])
	}
	wantAct(t, a, accepted, udp(low, high))
	wantFlow(t, a, k, 9, 22, own()[9])

	a = build(t, 1, open())
	k = keyOf(isICMP, low, high)
	wantAct(t, a, accepted, ping(high, low, isEcho))
	for range 20 {
		wantAct(t, a, invalid, ping(low, high, isEcho))
		wantAct(t, a, invalid, ping(high, low, isReply))
	}
	wantAct(t, a, accepted, ping(high, low, isEcho))
	wantFlow(t, a, k, 8, 42, own()[8])
	wantAct(t, a, accepted, ping(low, high, isReply))
	wantFlow(t, a, k, 9, 43, own()[9])
}

// P18.2: a flow that was removed may be opened again from the other end, which then is the one that opened it.
func TestActDirectionAnew(t *testing.T) {
	a := build(t, 1, open())
	k := keyOf(isTCP, low, high)
	for i, from := range []end{low, high, high, low, low, high} {
		to := low
		if from == low {
			to = high
		}
		wantAct(t, a, accepted, tcp(from, to, opening))
		wantAct(t, a, invalid, tcp(to, from, opening))
		wantAct(t, a, accepted, tcp(to, from, answer))
		if i%2 == 0 {
			if !a.Drop(k) {
				t.Fatal("Drop")
			}
		} else {
			a.Tick(own()[2])
		}
	}
}

// P18.2: flows whose two ends are equal: every packet of them comes from the end that opened them.
func TestActEqualEnds(t *testing.T) {
	for _, x := range []end{low, {0, 0}, {math.MaxUint32, 65535}} {
		a := build(t, 3, open())
		wantAct(t, a, accepted, udp(x, x), udp(x, x), udp(x, x))
		wantFlow(t, a, keyOf(isUDP, x, x), 8, 3, own()[8])
		wantAct(t, a, accepted, ping(x, x, isEcho))
		wantAct(t, a, invalid, ping(x, x, isReply))
		wantAct(t, a, accepted, ping(x, x, isEcho))
		wantFlow(t, a, keyOf(isICMP, x, x), 8, 3, own()[8])
		wantAct(t, a, accepted, tcp(x, x, opening), tcp(x, x, opening))
		wantAct(t, a, invalid, tcp(x, x, answer))
		wantFlow(t, a, keyOf(isTCP, x, x), 1, 3, own()[1])
		wantAct(t, a, accepted, tcp(x, x, reset))
		wantFlow(t, a, keyOf(isTCP, x, x), 7, 4, own()[7])
	}
}

// P18.2: a flow goes on after rules were swapped that admit nothing; what opens anew is denied.
func TestActAfterSwap(t *testing.T) {
	other := every(true)
	other.Src = api.Net{Addr: middle.addr, Bits: 32}
	for _, list := range [][]api.Rule{nil, shut(), {other}, {every(false), every(true)}} {
		a := build(t, 4, open())
		wantAct(t, a, accepted, tcp(low, high, opening), udp(high, low))
		if _, e := a.Swap(list); e != api.OK {
			t.Fatal(e)
		}
		wantAct(t, a, accepted, tcp(high, low, answer), tcp(low, high, plain), udp(low, high))
		wantAct(t, a, invalid, tcp(low, high, opening))
		wantFlow(t, a, keyOf(isTCP, low, high), 3, 4, own()[3])
		wantFlow(t, a, keyOf(isUDP, low, high), 9, 2, own()[9])
		wantAct(t, a, denied, ping(low, high, isEcho), tcp(low, middle, opening), tcp(low, middle, plain), udp(low, middle))
		wantGate(t, a, 1, 2, 0)
		a.Tick(5000)
		wantAct(t, a, denied, tcp(low, high, plain), udp(low, high))
		wantKeys(t, a)
	}
}

// state is a state with packets that lead to it.
type state struct {
	is   int
	path []api.Packet
}

// states returns all states that a flow can have.
func states() []state {
	begin := []api.Packet{tcp(high, low, opening), tcp(low, high, answer), tcp(high, low, plain)}
	return []state{
		{1, begin[:1]}, {2, begin[:2]}, {3, begin},
		{4, append(slices.Clone(begin), tcp(high, low, ending))},
		{5, append(slices.Clone(begin), tcp(low, high, ending))},
		{6, append(slices.Clone(begin), tcp(high, low, ending), tcp(low, high, ending))},
		{7, []api.Packet{begin[0], tcp(low, high, reset)}},
		{8, []api.Packet{udp(high, low)}}, {9, []api.Packet{udp(high, low), udp(low, high)}},
		{8, []api.Packet{ping(high, low, isEcho)}}, {9, []api.Packet{ping(high, low, isEcho), ping(low, high, isReply)}},
	}
}

// P18.2, P18.3: each state has its timeout: the flow is over at that clock, and not before.
func TestTimeouts(t *testing.T) {
	for _, s := range states() {
		for _, start := range []int{0, 1, 77, topClock - 10*topTime} {
			a := build(t, 1, open())
			a.Tick(start)
			wantAct(t, a, accepted, s.path...)
			k := keyOf(s.path[0].Proto, low, high)
			until := start + own()[s.is]
			wantFlow(t, a, k, s.is, len(s.path), until)
			if a.Delete(k) {
				t.Fatalf("state %d is over at once", s.is)
			}
			a.Tick(own()[s.is] - 1)
			if a.Delete(k) {
				t.Fatalf("state %d is over too early", s.is)
			}
			wantFlow(t, a, k, s.is, len(s.path), until)
			a.Tick(1)
			wantFlow(t, a, k, s.is, len(s.path), until)
			if !a.Delete(k) {
				t.Fatalf("state %d is not over at %d", s.is, until)
			}
			wantGate(t, a, 0, 0, until)
		}
	}
}

// P18.2: timeouts are clamped as chapter 17 says, and each is asked for its own state only.
func TestTimeoutsClamped(t *testing.T) {
	for _, x := range [][2]int{{math.MinInt, 1}, {-1, 1}, {0, 1}, {1, 1}, {2, 2}, {topTime, topTime}, {topTime + 1, topTime}, {math.MaxInt, topTime}} {
		for _, s := range states() {
			c := api.Config{Stripes: 1, Cap: 1}
			for i := range c.Times {
				c.Times[i] = 500
			}
			c.Times[s.is] = x[0]
			a, e := New(c, open())
			if e != api.OK {
				t.Fatal(e)
			}
			// A later change of the config is not seen.
			c.Times[s.is] = 3
			wantAct(t, a, accepted, s.path...)
			wantFlow(t, a, keyOf(s.path[0].Proto, low, high), s.is, len(s.path), x[1])
		}
	}
}

// P18.2: at the greatest clock no flow lasts: each is over as soon as it is there.
func TestActAtMaxClock(t *testing.T) {
	a := build(t, 1, open())
	a.Tick(math.MaxInt)
	k := keyOf(isUDP, low, high)
	wantAct(t, a, accepted, udp(low, high))
	wantFlow(t, a, k, 8, 1, topClock)
	wantAct(t, a, accepted, udp(high, low), udp(low, high))
	wantFlow(t, a, k, 8, 1, topClock)
	wantAct(t, a, isFull, tcp(low, high, opening))
	wantKeys(t, a, k)
	if !a.Delete(k) {
		t.Fatal("Delete")
	}
	wantAct(t, a, accepted, tcp(low, high, opening))
	wantAct(t, a, invalid, tcp(high, low, answer))
	wantKeys(t, a)
	wantGate(t, a, 0, 0, topClock)
}

// P18.2: near the greatest clock the times end with it.
func TestActNearMaxClock(t *testing.T) {
	for _, s := range states() {
		for _, left := range []int{1, 2, 50, own()[s.is] - 1, own()[s.is], own()[s.is] + 1} {
			a := build(t, 1, open())
			a.Tick(topClock - left)
			wantAct(t, a, accepted, s.path...)
			k := keyOf(s.path[0].Proto, low, high)
			wantFlow(t, a, k, s.is, len(s.path), min(topClock, topClock-left+own()[s.is]))
			if a.Delete(k) {
				t.Fatalf("state %d is over at once, %d before the end", s.is, left)
			}
			a.Tick(left)
			if over := a.Delete(k); over != (left >= own()[s.is] || a.Gate().Clock == topClock) {
				t.Fatalf("state %d, %d before the end: %v", s.is, left, over)
			}
		}
	}
}

// P18.2: packets that are not valid are judged by what they say.
func TestActNotValid(t *testing.T) {
	a := build(t, 9, open())
	odd := udp(low, high)
	odd.Flags, odd.Kind = 255, 255
	wantAct(t, a, accepted, odd, udp(high, low))
	wantFlow(t, a, keyOf(isUDP, low, high), 9, 2, own()[9])
	wantAct(t, a, accepted, ping(end{1, 2}, end{1, 3}, isEcho), ping(end{1, 3}, end{1, 2}, isReply))
	wantFlow(t, a, keyOf(isICMP, end{1, 2}, end{1, 3}), 9, 2, own()[9])
	wantAct(t, a, accepted, tcp(low, high, 2+8+32+64+128))
	wantFlow(t, a, keyOf(isTCP, low, high), 1, 1, own()[1])
	wantAct(t, a, invalid, api.Packet{})
}

// P18.2: flows of one protocol, address or port differ from those of another.
func TestActKeysApart(t *testing.T) {
	a := build(t, 9, open())
	list := []api.Packet{
		udp(low, high), udp(end{low.addr, low.port + 1}, high), udp(end{low.addr + 1, low.port}, high),
		udp(low, end{high.addr, high.port + 1}), udp(low, end{high.addr + 1, high.port}), udp(end{low.addr, high.port}, end{high.addr, low.port}),
		ping(low, high, isEcho), tcp(low, high, opening),
	}
	for i, p := range list {
		wantAct(t, a, accepted, p)
		wantGate(t, a, 0, i+1, 0)
		k, _ := slowKey(p)
		state := 8
		if p.Proto == isTCP {
			state = 1
		}
		wantFlow(t, a, k, state, 1, own()[state])
	}
}

// P18.2, P18.3: Act counts no verdict.
func TestActCountsNothing(t *testing.T) {
	a := build(t, 1, []api.Rule{only(false, isICMP), every(true)})
	wantAct(t, a, accepted, udp(low, high))
	wantAct(t, a, denied, ping(low, high, isEcho))
	wantAct(t, a, invalid, tcp(low, high, plain))
	wantAct(t, a, isFull, tcp(low, high, opening))
	for v := -1; v <= 7; v++ {
		if n := a.Stat(v); n != 0 {
			t.Errorf("Stat(%d) = %d", v, n)
		}
	}
}

// The document's examples: an opening that a rule accepts, the answer to it, and the same answer without the opening.
func TestExample(t *testing.T) {
	a := build(t, 4, open())
	wantAct(t, a, accepted, tcp(high, low, opening), tcp(low, high, answer))
	wantAct(t, build(t, 4, open()), invalid, tcp(low, high, answer))
	wantAct(t, build(t, 4, shut()), denied, tcp(low, high, answer))
	wantAct(t, build(t, 4, nil), denied, tcp(low, high, answer))
}
