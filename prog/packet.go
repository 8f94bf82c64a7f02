package prog

import (
	"math"

	"mantlet/api"
	"mantlet/flow"
	"mantlet/fsm"
	"mantlet/gate"
	"mantlet/key"
	"mantlet/match"
	"mantlet/wire"
)

// startPacket starts with a packet. It is parsed here, as its bytes may not be kept.
func (r *Run) startPacket(b []byte) {
	p, e := wire.Parse(b)
	if e != api.OK {
		r.reply.E = e
		r.then((*Run).malformed)
		return
	}
	r.packet = p
	r.key, r.down = key.Of(p)
	r.stripe = key.Stripe(r.key, r.shared.config.Stripes)
	r.retry, r.gone = (*Run).again, (*Run).reopen
	r.lockThen(r.stripe, (*Run).find)
}

// malformed is the first count of a packet that is malformed.
func (r *Run) malformed() {
	r.reply.Verdict = api.Malformed
	r.record(api.Point{Kind: api.PtAct, Verdict: api.Malformed})
	r.count()
}

func (r *Run) find() {
	if r.findFlow() {
		r.then((*Run).release)
		return
	}
	r.then((*Run).absent)
}

func (r *Run) release() {
	r.free(r.stripe)
	r.then((*Run).load)
}

func (r *Run) load() {
	r.loadFlow()
	if flow.Unpack(r.oldFlow).State == api.Dead {
		r.lockThen(r.stripe, (*Run).find)
		return
	}
	r.then((*Run).judge)
}

func (r *Run) judge() {
	r.loadGate()
	// If the flow's word is still the same when it is swapped, this is where the packet took effect: the clock is that of now.
	r.setMark()
	if r.isOver() {
		r.lockThen(r.stripe, (*Run).look)
		return
	}
	state, ok := fsm.Next(flow.Unpack(r.oldFlow).State, r.down != r.turned, r.packet)
	if !ok {
		r.then((*Run).sure)
		return
	}
	r.state = state
	r.then((*Run).advance)
}

func (r *Run) advance() {
	r.change(r.state, r.until(), api.Accept)
}

func (r *Run) sure() {
	// Only this Swap tells that the flow did not change between its load and the mark, so that the packet was invalid there.
	f := flow.Unpack(r.oldFlow)
	r.change(f.State, f.Until, api.Invalid)
}

// change swaps the flow's word to the next one, with this state and until, which gives the packet its verdict.
func (r *Run) change(state, until, verdict int) {
	if !r.swapFlow(flow.Next(r.oldFlow, state, until)) {
		r.then((*Run).load)
		return
	}
	r.reply.Verdict = verdict
	r.fillMark(api.Point{Kind: api.PtAct, Key: r.key, Verdict: verdict})
	r.then((*Run).count)
}

// until returns when a flow that is now in the packet's state expires, by the gate that was loaded.
func (r *Run) until() int {
	return fsm.Until(r.shared.config.Times, r.state, r.clock())
}

func (r *Run) look() {
	if r.findFlow() {
		r.then((*Run).again)
		return
	}
	r.then((*Run).absent)
}

func (r *Run) again() {
	r.loadFlow()
	r.then((*Run).over)
}

func (r *Run) over() {
	r.loadGate()
	if r.isOver() {
		r.then((*Run).kill)
		return
	}
	r.then((*Run).release)
}

// reopen goes on when the flow that was over is gone: the packet may open it anew.
func (r *Run) reopen() {
	r.then((*Run).absent)
}

func (r *Run) absent() {
	r.loadGate()
	verdict := r.admit(r.readRules())
	if verdict == api.Accept {
		r.then((*Run).enter)
		return
	}
	r.decide(verdict)
}

// readRules returns the rules of the version of the gate that was loaded.
func (r *Run) readRules() []api.Rule {
	version := gate.Unpack(r.oldGate).Version
	r.shared.memory.Read(r.thread, r.shared.rulesPlace(version))
	return r.shared.rules[version]
}

// admit returns the verdict that these rules lead to, and keeps the state that an accepted packet leads to.
func (r *Run) admit(list []api.Rule) int {
	if _, accept := match.First(list, r.packet); !accept {
		return api.Denied
	}
	state, ok := fsm.Open(r.packet)
	if !ok {
		return api.Invalid
	}
	if _, ok := gate.Enter(r.oldGate, r.shared.config.Cap); !ok {
		return api.Full
	}
	r.state = state
	return api.Accept
}

func (r *Run) enter() {
	// The gate that was loaded has room for a flow, or the verdict would have been Full.
	now, _ := gate.Enter(r.oldGate, r.shared.config.Cap)
	if !r.swapGate(now) {
		r.then((*Run).absent)
		return
	}
	word := r.shared.memory.More(flow.Next(0, r.state, r.until()))
	r.shared.flows.Put(r.thread, r.key, word, r.down)
	r.decide(api.Accept)
}

// decide gives a packet its verdict, while the stripe is locked.
func (r *Run) decide(verdict int) {
	r.reply.Verdict = verdict
	r.record(api.Point{Kind: api.PtAct, Key: r.key, Verdict: verdict})
	r.then((*Run).unlock)
}

func (r *Run) unlock() {
	r.free(r.stripe)
	r.then((*Run).count)
}

func (r *Run) count() {
	r.oldCount = r.shared.memory.Load(r.thread, r.reply.Verdict)
	if r.oldCount == math.MaxUint64 {
		r.counted()
		return
	}
	r.then((*Run).add)
}

func (r *Run) add() {
	if !r.shared.memory.Swap(r.thread, r.reply.Verdict, r.oldCount, r.oldCount+1) {
		r.then((*Run).count)
		return
	}
	r.counted()
}

// counted lets the op return, as the verdict is counted.
func (r *Run) counted() {
	r.record(api.Point{Kind: api.PtCount, Verdict: r.reply.Verdict})
	r.end()
}
