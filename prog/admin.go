package prog

import (
	"mantlet/api"
	"mantlet/gate"
	"mantlet/rules"
)

// readClock loads the gate for a tick.
func (r *Run) readClock() {
	r.loadGate()
	r.then((*Run).tick)
}

// tick increases the clock.
func (r *Run) tick() {
	now := gate.Tick(r.oldGate, r.n)
	if !r.swapGate(now) {
		r.then((*Run).readClock)
		return
	}
	r.record(api.Point{Kind: api.PtTick, N: r.n})
	r.reply.N = gate.Unpack(now).Clock
	r.end()
}

// startSwap starts with a swap.
func (r *Run) startSwap(s string) {
	list, _, e := rules.Compile(s)
	if e != api.OK {
		r.refuse(e)
		return
	}
	r.list = list
	r.lockThen(r.shared.rulesMutex(), (*Run).claim)
}

// claim only locks the mutex of the rules: from here on, nobody else changes the version.
func (r *Run) claim() {
	r.then((*Run).prepare)
}

// prepare writes the rules of the next version, which nobody reads before the gate has it.
func (r *Run) prepare() {
	r.loadGate()
	now, ok := gate.Swap(r.oldGate)
	if !ok {
		r.reply.E = api.ErrOver
		r.then((*Run).disclaim)
		return
	}
	version := gate.Unpack(now).Version
	r.shared.memory.Write(r.thread, r.shared.rulesPlace(version))
	r.shared.rules[version] = r.list
	r.then((*Run).publish)
}

// publish makes the next version that of the gate.
func (r *Run) publish() {
	now, _ := gate.Swap(r.oldGate)
	if !r.swapGate(now) {
		r.then((*Run).prepare)
		return
	}
	version := gate.Unpack(now).Version
	// Who reads rules has loaded their version in the same act, so that nobody reads those of the version before any more.
	delete(r.shared.rules, version-1)
	r.record(api.Point{Kind: api.PtSwap, N: version})
	r.reply.N = version
	r.then((*Run).disclaim)
}

// disclaim unlocks the mutex of the rules.
func (r *Run) disclaim() {
	r.free(r.shared.rulesMutex())
	r.end()
}

// startStat starts with a stat.
func (r *Run) startStat(n int) {
	if !isVerdict(n) {
		r.refuse(api.ErrArg)
		return
	}
	r.n = n
	r.then((*Run).stat)
}

// stat loads a counter.
func (r *Run) stat() {
	// A counter of 2^63 or above wraps around.
	r.reply.N = int(r.shared.memory.Load(r.thread, r.n))
	r.record(api.Point{Kind: api.PtStat, Verdict: r.n, N: r.reply.N})
	r.end()
}
