package race

import (
	"math"
	"math/rand"
	"slices"
	"testing"

	"mantlet/api"
	"mantlet/pack"
	"mantlet/world"
)

// The texts of rules.
const (
	openText = "accept any any any any any\n"
	shutText = "drop any any any any any\n"
)

// maker makes arbitrary worlds.
type maker struct {
	*rand.Rand
	config api.Config
	flows  int
}

// newMaker returns the maker with this number: few flows, a small cap and short timeouts, so that the threads meet.
func newMaker(seed int) maker {
	m := maker{Rand: rand.New(rand.NewSource(int64(seed)))}
	m.config = api.Config{Stripes: 1 << m.Intn(3), Cap: 1 + m.Intn(4)}
	for i := range m.config.Times {
		m.config.Times[i] = m.Intn(6)
	}
	m.flows = 1 + m.Intn(5)
	return m
}

// packet returns the op of a packet of one of the flows, each of which has another protocol than the next one.
func (m maker) packet() api.Op {
	flow := m.Intn(m.flows)
	p := api.Packet{Proto: []uint8{api.TCP, api.UDP, api.ICMP}[flow%3], Src: 5, Dst: uint32(9 + flow), SPort: 80, DPort: 80}
	if m.Intn(2) == 0 {
		p.Src, p.Dst = p.Dst, p.Src
	}
	switch p.Proto {
	case api.TCP:
		p.Flags = []uint8{api.Syn, api.Syn, api.Syn | api.Ack, api.Ack, api.Fin | api.Ack, api.Rst}[m.Intn(6)]
	case api.ICMP:
		p.Kind = []uint8{api.Echo, api.EchoReply}[m.Intn(2)]
	}
	b, e := pack.Build(p, nil)
	if e != api.OK {
		panic("no packet")
	}
	return api.Op{Kind: api.OpPacket, B: b}
}

// op returns an op.
func (m maker) op() api.Op {
	switch n := m.Intn(40); {
	case n < 16:
		return m.packet()
	case n < 21:
		return api.Op{Kind: api.OpTick, N: m.Intn(4)}
	case n < 27:
		return api.Op{Kind: api.OpSwap, S: []string{openText, openText, shutText, "?"}[m.Intn(4)]}
	case n < 29:
		return api.Op{Kind: api.OpFlush}
	case n < 34:
		return api.Op{Kind: api.OpCollect}
	case n < 37:
		return api.Op{Kind: api.OpStat, N: m.Intn(7)}
	case n < 39:
		return api.Op{Kind: api.OpPacket, B: m.packet().B[:19]}
	}
	return api.Op{Kind: []int{-1, 0, 7, math.MaxInt}[m.Intn(4)]}
}

// world returns a world of so many threads with at most so many ops each, after all of them are done.
func (m maker) world(t *testing.T, threads, ops int) *world.World {
	list := make([][]api.Op, threads)
	for i := range list {
		for range m.Intn(ops + 1) {
			list[i] = append(list[i], m.op())
		}
	}
	w, e := world.New(m.config, []api.Rule{{Accept: true, SPort: api.Span{High: 65535}, DPort: api.Span{High: 65535}}}, list)
	if e != api.OK {
		t.Fatal(e)
	}
	thread, stay := 0, m.Intn(15)
	for n := 0; !w.Done(); n++ {
		if n == 10000000 {
			t.Fatal("the threads do not end")
		}
		if m.Intn(16) >= stay {
			thread = m.Intn(threads)
		}
		w.Pick(thread)
	}
	return w
}

// meetings counts the pairs of accesses of plain locations that would race if none happened before another one: of stripes, and of rules.
func (m maker) meetings(s *slow) (stripes, rules int) {
	for b, y := range s.log {
		for _, x := range s.log[:b] {
			switch {
			case !conflict(x, y):
			case y.Place/3 < m.config.Stripes:
				stripes++
			default:
				rules++
			}
		}
	}
	return stripes, rules
}

// P2, P24.1: no two accesses of a world race, and others happen before others as by the second implementation.
func TestWorlds(t *testing.T) {
	stripes, rules := 0, 0
	for seed := range 500 {
		m := newMaker(seed)
		s := newSlow(m.world(t, 1+m.Intn(8), 20).Shared().Log())
		wantNone(t, s.log...)
		wantSameFind(t, s)
		n, k := m.meetings(s)
		stripes, rules = stripes+n, rules+k
		for range 300 {
			a, b := m.Intn(len(s.log)+3)-1, m.Intn(len(s.log)+3)-1
			wantBefore(t, s.log, a, b, s.happens(a, b))
		}
	}
	if stripes < 50000 || rules < 3000 {
		t.Errorf("%d pairs of accesses of stripes and %d of rules: this tells little", stripes, rules)
	}
}

// P2, P24.1: also with as many threads as there may be.
func TestGreatWorlds(t *testing.T) {
	for seed := range 10 {
		m := newMaker(seed)
		log := m.world(t, 64, 80).Shared().Log()
		wantNone(t, log...)
		if len(log) < 8000 {
			t.Errorf("only %d accesses: this tells little", len(log))
		}
		last := lastPlain(log)
		wantNone(t, append(slices.Clip(log), last)...)
		other := last.Thread ^ 1
		log = slices.DeleteFunc(log, func(x api.Access) bool { return x.Thread == other })
		wantRace(t, append(log, write(other, last.Place))...) // its first access of all
	}
}

// lastPlain returns the last access of a plain location.
func lastPlain(log []api.Access) api.Access {
	for _, x := range slices.Backward(log) {
		if x.Kind == isRead || x.Kind == isWrite {
			return x
		}
	}
	return api.Access{}
}

// spoil returns accesses with a fault.
func (m maker) spoil(log []api.Access) []api.Access {
	i, j := m.Intn(len(log)), m.Intn(len(log))
	list := slices.Clone(log)
	switch m.Intn(7) {
	case 0: // one kind is missing
		return slices.DeleteFunc(list, func(x api.Access) bool { return x.Kind == log[i].Kind })
	case 1: // one mutex or word is missing
		return slices.DeleteFunc(list, func(x api.Access) bool { return x.Place == log[i].Place })
	case 2: // one kind of one thread is missing
		return slices.DeleteFunc(list, func(x api.Access) bool { return x.Kind == log[i].Kind && x.Thread == log[i].Thread })
	case 3: // one is missing
		return slices.Delete(list, i, i+1)
	case 4: // one is of another thread
		list[i].Thread = log[j].Thread
	case 5: // two have changed their order
		list[i], list[j] = list[j], list[i]
	case 6: // one is of another kind
		list[i].Kind = log[j].Kind
	}
	return list
}

// P24.1: accesses of worlds with faults race as by the second implementation.
func TestFaultyWorlds(t *testing.T) {
	races, none := 0, 0
	for seed := range 150 {
		m := newMaker(seed + 1000)
		log := m.world(t, 2+m.Intn(6), 12).Shared().Log()
		for range 20 {
			if len(log) == 0 {
				break
			}
			if _, e := wantSameFind(t, newSlow(m.spoil(log))); e == api.ErrRace {
				races++
			} else {
				none++
			}
		}
	}
	if races < 500 || none < 500 {
		t.Errorf("%d logs with races and %d without: this tells little", races, none)
	}
}
