package auto

import (
	"slices"

	"mantlet/api"
	"mantlet/fsm"
	"mantlet/match"
	"mantlet/rules"
)

// slow is a second implementation, by the document's words: its flows are in a plain list, and no words are packed.
type slow struct {
	most   int
	times  [16]int
	clock  int
	rules  [][]api.Rule // by versions
	flows  []slowFlow   // the oldest one first
	counts map[int]uint64
}

// slowFlow is a flow, with its key.
type slowFlow struct {
	key    api.Key
	is     api.Flow
	higher bool // the packet that opened it came from the higher endpoint
}

// slowCheckRules goes by the document's words.
func slowCheckRules(list []api.Rule) api.Errno {
	if len(list) > 64 {
		return api.ErrMany
	}
	for _, r := range list {
		if !rules.Good(r) {
			return api.ErrArg
		}
	}
	return api.OK
}

// slowCheck goes by the document's words.
func slowCheck(c api.Config, list []api.Rule) api.Errno {
	power := false
	for n := 1; n <= 4096; n *= 2 {
		power = power || c.Stripes == n
	}
	if !power || c.Cap < 1 || c.Cap > 4095 {
		return api.ErrArg
	}
	return slowCheckRules(list)
}

// newSlow returns a firewall, or the error.
func newSlow(c api.Config, list []api.Rule) (*slow, api.Errno) {
	if e := slowCheck(c, list); e != api.OK {
		return nil, e
	}
	return &slow{most: c.Cap, times: c.Times, rules: [][]api.Rule{slices.Clone(list)}, counts: map[int]uint64{}}, api.OK
}

// tick goes step by step where that is possible.
func (s *slow) tick(n int) {
	for n > 0 && s.clock < topClock {
		step := min(n, topClock-s.clock)
		s.clock += step
		n -= step
	}
}

// swap keeps the older rules.
func (s *slow) swap(list []api.Rule) (int, api.Errno) {
	if e := slowCheckRules(list); e != api.OK {
		return 0, e
	}
	if len(s.rules) == 4096 {
		return 0, api.ErrOver
	}
	s.rules = append(s.rules, slices.Clone(list))
	return len(s.rules) - 1, api.OK
}

// place is an endpoint as one number, which orders it.
func place(addr uint32, port uint16) uint64 {
	return uint64(addr)*65536 + uint64(port)
}

// slowKey goes by the document's words.
func slowKey(p api.Packet) (k api.Key, higher bool) {
	k = api.Key{Addr: [2]uint32{p.Src, p.Dst}, Port: [2]uint16{p.SPort, p.DPort}, Proto: p.Proto}
	if place(p.Src, p.SPort) > place(p.Dst, p.DPort) {
		k.Addr = [2]uint32{p.Dst, p.Src}
		k.Port = [2]uint16{p.DPort, p.SPort}
		higher = true
	}
	return k, higher
}

// find returns the index of the flow with this key, or -1.
func (s *slow) find(k api.Key) int {
	for i, f := range s.flows {
		if f.key == k {
			return i
		}
	}
	return -1
}

// over goes by the document's words.
func (s *slow) over(f api.Flow) bool {
	return f.State == 0 || f.State == 15 || f.Until <= s.clock || f.Seq == 1048575
}

// act goes by the document's words, one after the other.
func (s *slow) act(p api.Packet) int {
	k, higher := slowKey(p)
	if i := s.find(k); i >= 0 && s.over(s.flows[i].is) {
		s.cut(i)
	}
	if i := s.find(k); i >= 0 {
		f := &s.flows[i]
		f.is.Seq = min(f.is.Seq+1, 1048575)
		next, ok := fsm.Next(f.is.State, f.higher != higher, p)
		if !ok {
			return 4
		}
		f.is.State = next
		f.is.Until = fsm.Until(s.times, next, s.clock)
		return 1
	}
	accept := false
	for _, r := range s.rules[len(s.rules)-1] {
		if match.Matches(r, p) {
			accept = r.Accept
			break
		}
	}
	if !accept {
		return 3
	}
	state, ok := fsm.Open(p)
	if !ok {
		return 4
	}
	if len(s.flows) == s.most {
		return 5
	}
	s.flows = append(s.flows, slowFlow{k, api.Flow{State: state, Seq: 1, Until: fsm.Until(s.times, state, s.clock)}, higher})
	return 1
}

// cut removes the flow with this index.
func (s *slow) cut(i int) {
	s.flows = append(s.flows[:i:i], s.flows[i+1:]...)
}

// remove removes the flow with this key: any, or only one that is over.
func (s *slow) remove(k api.Key, anyFlow bool) bool {
	i := s.find(k)
	if i < 0 || !anyFlow && !s.over(s.flows[i].is) {
		return false
	}
	s.cut(i)
	return true
}

// count goes by the document's words.
func (s *slow) count(v int) {
	if v == 1 || v == 2 || v == 3 || v == 4 || v == 5 {
		s.counts[v]++
	}
}

// stat returns the counter.
func (s *slow) stat(v int) uint64 {
	return s.counts[v]
}

// gate counts the flows.
func (s *slow) gate() api.Gate {
	return api.Gate{Version: len(s.rules) - 1, Count: len(s.flows), Clock: s.clock}
}

// look returns the flow.
func (s *slow) look(k api.Key) (api.Flow, bool) {
	i := s.find(k)
	if i < 0 {
		return api.Flow{}, false
	}
	return s.flows[i].is, true
}

// ranks returns the numbers that order keys, the first one that differs first.
func ranks(k api.Key) []uint64 {
	return []uint64{uint64(k.Proto), place(k.Addr[0], k.Port[0]), place(k.Addr[1], k.Port[1])}
}

// keys inserts each key behind the lower ones.
func (s *slow) keys() []api.Key {
	var list []api.Key
	for _, f := range s.flows {
		i := 0
		for i < len(list) && slices.Compare(ranks(list[i]), ranks(f.key)) < 0 {
			i++
		}
		list = slices.Insert(list, i, f.key)
	}
	return list
}
