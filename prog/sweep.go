package prog

import (
	"mantlet/api"
	"mantlet/flow"
	"mantlet/gate"
)

func (r *Run) kill() {
	if !r.swapFlow(flow.Dead()) {
		r.then(r.retry)
		return
	}
	// In the same act, so that no flow in the table is Dead when its stripe is unlocked.
	r.shared.flows.Remove(r.thread, r.key)
	r.then((*Run).less)
}

func (r *Run) less() {
	r.loadGate()
	r.then((*Run).leave)
}

func (r *Run) leave() {
	// The flow that was killed is still counted, so that the Count is not 0.
	now, _ := gate.Leave(r.oldGate)
	if !r.swapGate(now) {
		r.then((*Run).less)
		return
	}
	p := api.Point{Kind: api.PtDelete, Key: r.key}
	if r.flush {
		p.N = 1
	}
	r.record(p)
	r.gone(r)
}

// startSweep starts with a collect or a flush.
func (r *Run) startSweep() {
	r.retry, r.gone = (*Run).visit, (*Run).removed
	r.lockThen(r.stripe, (*Run).take)
}

// take takes the keys of a stripe.
func (r *Run) take() {
	r.keys, _ = r.shared.flows.Keys(r.thread, r.stripe)
	r.proceed()
}

// proceed goes on with the next key of the stripe.
func (r *Run) proceed() {
	if len(r.keys) == 0 {
		r.then((*Run).finish)
		return
	}
	r.key, r.keys = r.keys[0], r.keys[1:]
	r.then((*Run).visit)
}

// visit finds a flow and loads its word.
func (r *Run) visit() {
	// The stripe is locked since its keys were taken, so that the flow is there.
	r.findFlow()
	r.loadFlow()
	if r.flush {
		r.then((*Run).kill)
		return
	}
	r.then((*Run).inspect)
}

// inspect lets a collect spare a flow that is not over.
func (r *Run) inspect() {
	r.loadGate()
	if !r.isOver() {
		r.proceed()
		return
	}
	r.then((*Run).kill)
}

// removed goes on when a flow is gone.
func (r *Run) removed() {
	r.reply.N++
	r.proceed()
}

// finish unlocks a stripe; behind the last one, the op returns.
func (r *Run) finish() {
	r.free(r.stripe)
	r.stripe++
	if r.stripe == r.shared.config.Stripes {
		r.end()
		return
	}
	r.lockThen(r.stripe, (*Run).take)
}
