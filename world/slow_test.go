package world

import (
	"iter"
	"slices"

	"mantlet/api"
	"mantlet/auto"
	"mantlet/key"
	"mantlet/prog"
	"mantlet/rules"
	"mantlet/wire"
)

// slow is a second implementation, by the document's words: each thread is a piece of code that goes through its ops from the first to the last, and a later op begins only when it is picked.
type slow struct {
	shared  *prog.Shared
	threads map[int]*slowThread
}

// slowThread is a thread.
type slowThread struct {
	shared  *prog.Shared
	number  int
	ops     []api.Op
	current *prog.Run // nil between two ops
	replies []api.Reply
	resume  func() (bool, bool)
	stop    func()
}

// newSlow returns a world.
func newSlow(c api.Config, list []api.Rule, threads [][]api.Op) *slow {
	s := &slow{threads: map[int]*slowThread{}}
	s.shared, _ = prog.New(c, list)
	for i, ops := range threads {
		t := &slowThread{shared: s.shared, number: i, ops: ops}
		t.resume, t.stop = iter.Pull(t.all)
		s.threads[i] = t
	}
	return s
}

// stop ends all threads.
func (s *slow) stop() {
	for _, t := range s.threads {
		t.stop()
	}
}

// all goes through all ops. Each pick leads to the next yield, which tells whether there was an act.
func (t *slowThread) all(yield func(bool) bool) {
	for n, x := range t.ops {
		t.current = prog.Begin(t.shared, t.number, n, x)
		for t.current != nil {
			acted := t.current.Step()
			if y, ok := t.current.Done(); ok {
				t.replies = append(t.replies, y)
				t.current = nil
			}
			if !yield(acted) {
				return
			}
		}
	}
}

// pick performs an act of a thread.
func (s *slow) pick(thread int) bool {
	t, ok := s.threads[thread]
	if !ok {
		return false
	}
	acted, more := t.resume()
	return acted && more
}

// over reports whether a thread has as many replies as ops.
func (s *slow) over(thread int) bool {
	t, ok := s.threads[thread]
	return !ok || len(t.replies) == len(t.ops)
}

// waits asks the current op, or the next one if there is none.
func (s *slow) waits(thread int) bool {
	if s.over(thread) {
		return false
	}
	t := s.threads[thread]
	if t.current != nil {
		return t.current.Blocked()
	}
	n := len(t.replies)
	return prog.Begin(t.shared, thread, n, t.ops[n]).Blocked()
}

// done reports whether all threads are over.
func (s *slow) done() bool {
	n := 0
	for i := range s.threads {
		if s.over(i) {
			n++
		}
	}
	return n == len(s.threads)
}

// replies returns the replies of a thread.
func (s *slow) replies(thread int) []api.Reply {
	if t, ok := s.threads[thread]; ok {
		return t.replies
	}
	return nil
}

// wall is the sequential firewall, which performs ops as a whole.
type wall struct {
	*auto.Auto
}

// newWall returns a firewall.
func newWall(c api.Config, list []api.Rule) wall {
	a, _ := auto.New(c, list)
	return wall{a}
}

// do performs an op.
func (a wall) do(x api.Op) api.Reply {
	switch x.Kind {
	case isPacket:
		return a.packet(x.B)
	case isTick:
		a.Tick(x.N)
		return number(a.Gate().Clock)
	case isSwap:
		list, _, e := rules.Compile(x.S)
		if e != api.OK {
			return failed(e)
		}
		v, e := a.Swap(list)
		return api.Reply{N: v, E: e}
	case isFlush:
		return number(a.remove(a.Drop))
	case isCollect:
		return number(a.remove(a.Delete))
	case isStat:
		if x.N >= 1 && x.N <= 5 {
			return number(int(a.Stat(x.N)))
		}
	}
	return failed(api.ErrArg)
}

// packet judges a packet, whose flow is removed first if it is over.
func (a wall) packet(b []byte) api.Reply {
	p, e := wire.Parse(b)
	v := api.Malformed
	if e == api.OK {
		k, _ := key.Of(p)
		a.Delete(k)
		v = a.Act(p)
	}
	a.Count(v)
	return api.Reply{E: e, Verdict: v}
}

// remove removes all flows that by removes, and returns their number.
func (a wall) remove(by func(api.Key) bool) int {
	n := 0
	for _, k := range a.Keys() {
		if by(k) {
			n++
		}
	}
	return n
}

// follow lets the firewall do what the points tell, and returns the first one that tells something else than the firewall does, or -1.
func (a wall) follow(points []api.Point, threads [][]api.Op) int {
	return slices.IndexFunc(points, func(p api.Point) bool { return !a.agrees(p, threads[p.Thread][p.Op]) })
}

// agrees does what a point tells, and reports whether the firewall does the same.
func (a wall) agrees(p api.Point, x api.Op) bool {
	switch p.Kind {
	case api.PtAct:
		packet, e := wire.Parse(x.B)
		if e != api.OK {
			return p.Verdict == api.Malformed
		}
		k, _ := key.Of(packet)
		return k == p.Key && !a.Delete(k) && a.Act(packet) == p.Verdict
	case api.PtCount:
		a.Count(p.Verdict)
	case api.PtDelete:
		if p.N == 1 {
			return a.Drop(p.Key)
		}
		return a.Delete(p.Key)
	case api.PtTick:
		a.Tick(p.N)
	case api.PtSwap:
		list, _, _ := rules.Compile(x.S)
		v, e := a.Swap(list)
		return v == p.N && e == api.OK
	case api.PtStat:
		return a.Stat(p.Verdict) == uint64(p.N)
	}
	return true
}
