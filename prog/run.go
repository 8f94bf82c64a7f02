package prog

import (
	"mantlet/api"
	"mantlet/flow"
	"mantlet/gate"
)

const (
	none   = -1 // the mutex of an act that locks none; there is no such mutex, so that nobody holds it
	nobody = -1 // the holder of a mutex that is free or does not exist
)

// Run is an op of a thread. Each act is a method; where the document names the act, the method has the same name.
type Run struct {
	shared *Shared
	thread int
	number int // of the op

	next   func(*Run) // performs the next act, once the mutex is locked; nil if there is none
	mutex  int        // that the next act locks, or none
	called bool       // whether the first act was performed
	ended  bool
	reply  api.Reply // as far as it is known

	n      int        // of a tick or a stat
	list   []api.Rule // of a swap
	packet api.Packet
	down   bool       // whether the packet comes from the higher endpoint
	flush  bool       // whether flows are removed that are not over
	retry  func(*Run) // the act behind a kill that failed
	gone   func(*Run) // decides on the act behind a leave

	stripe int
	keys   []api.Key // of the stripe's flows that are not yet processed
	key    api.Key
	word   int  // the number of the flow's word
	turned bool // whether the packet that opened the flow came from the higher endpoint
	state  int  // that the packet leads to
	mark   int  // the position of its point

	// The values of words, as they were loaded.
	oldFlow  uint64
	oldGate  uint64
	oldCount uint64
}

// Begin returns the op, none of whose acts has been performed; or nil if no thread can perform it.
func Begin(s *Shared, thread, op int, x api.Op) *Run {
	if s == nil || s.memory == nil || thread < 0 {
		return nil
	}
	r := &Run{shared: s, thread: thread, number: op, mutex: none}
	switch x.Kind {
	case api.OpPacket:
		r.startPacket(x.B)
	case api.OpTick:
		r.n = x.N
		r.then((*Run).readClock)
	case api.OpSwap:
		r.startSwap(x.S)
	case api.OpFlush, api.OpCollect:
		r.flush = x.Kind == api.OpFlush
		r.startSweep()
	case api.OpStat:
		r.startStat(x.N)
	default:
		r.refuse(api.ErrArg)
	}
	return r
}

// Step performs the next act, or returns false if the op is over or waits.
func (r *Run) Step() bool {
	if r == nil || r.next == nil {
		return false
	}
	if r.mutex != none && !r.shared.memory.Lock(r.thread, r.mutex) {
		return false
	}
	r.mutex = none
	if !r.called {
		r.called = true
		r.record(api.Point{Kind: api.PtCall})
	}
	r.next(r)
	return true
}

// Blocked reports whether the op waits for a mutex.
func (r *Run) Blocked() bool {
	return r != nil && r.next != nil && r.shared.memory.Holder(r.mutex) != nobody
}

// Done returns the reply, or false if the op is not over.
func (r *Run) Done() (api.Reply, bool) {
	if r == nil || !r.ended {
		return api.Reply{}, false
	}
	return r.reply, true
}

// then makes act the next one, which locks nothing.
func (r *Run) then(act func(*Run)) {
	r.next = act
}

// lockThen makes act the next one, which begins with locking the mutex.
func (r *Run) lockThen(mutex int, act func(*Run)) {
	r.mutex, r.next = mutex, act
}

// refuse makes the op's only act one that returns the error.
func (r *Run) refuse(e api.Errno) {
	r.reply.E = e
	r.then((*Run).end)
}

// end lets the op return.
func (r *Run) end() {
	r.record(api.Point{Kind: api.PtReturn, Verdict: r.reply.Verdict, N: r.reply.N})
	r.next, r.ended = nil, true
}

// record records a point of this op.
func (r *Run) record(p api.Point) {
	r.shared.points = append(r.shared.points, r.own(p))
}

// setMark reserves the next position for a point.
func (r *Run) setMark() {
	r.mark = len(r.shared.points)
	r.shared.points = append(r.shared.points, api.Point{})
}

// fillMark records a point of this op at the position that was reserved.
func (r *Run) fillMark(p api.Point) {
	r.shared.points[r.mark] = r.own(p)
}

// own returns p as a point of this op.
func (r *Run) own(p api.Point) api.Point {
	p.Thread, p.Op = r.thread, r.number
	return p
}

// free unlocks a mutex that an earlier act of this op has locked.
func (r *Run) free(mutex int) {
	r.shared.memory.Unlock(r.thread, mutex)
}

// loadGate loads the gate.
func (r *Run) loadGate() {
	r.oldGate = r.shared.memory.Load(r.thread, gateWord)
}

// swapGate swaps the gate from the value that was loaded, and reports whether it did.
func (r *Run) swapGate(now uint64) bool {
	return r.shared.memory.Swap(r.thread, gateWord, r.oldGate, now)
}

// clock returns the Clock of the gate that was loaded.
func (r *Run) clock() int {
	return gate.Unpack(r.oldGate).Clock
}

// findFlow finds the flow in its stripe, and reports whether it is there.
func (r *Run) findFlow() bool {
	word, turned, ok, _ := r.shared.flows.Find(r.thread, r.key)
	r.word, r.turned = word, turned
	return ok
}

// loadFlow loads the flow's word.
func (r *Run) loadFlow() {
	r.oldFlow = r.shared.memory.Load(r.thread, r.word)
}

// swapFlow swaps the flow's word from the value that was loaded, and reports whether it did.
func (r *Run) swapFlow(now uint64) bool {
	return r.shared.memory.Swap(r.thread, r.word, r.oldFlow, now)
}

// isOver reports whether the flow that was loaded is over by the gate that was loaded.
func (r *Run) isOver() bool {
	return flow.Over(r.oldFlow, r.clock())
}
