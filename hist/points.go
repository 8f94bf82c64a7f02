package hist

import "mantlet/api"

// perform lets the firewall do what a point of p's kind states. It returns the key, verdict and number of the only such point that is valid now, or false if there is none.
func (h *history) perform(t *thread, p api.Point) (api.Point, bool) {
	if p.Kind == api.PtCall {
		return api.Point{}, t.run == nil && t.number < len(t.ops)
	}
	if t.run == nil {
		return api.Point{}, false
	}
	switch p.Kind {
	case api.PtAct:
		return h.act(t.run)
	case api.PtCount:
		return h.count(t.run)
	case api.PtDelete:
		return h.remove(t.run, p.Key)
	case api.PtTick:
		return h.tick(t.run)
	case api.PtSwap:
		return h.swap(t.run)
	case api.PtStat:
		return h.stat(t.run)
	case api.PtReturn:
		return h.end(t.run)
	}
	return api.Point{}, false
}

// has reports whether the op has a point of this kind so far.
func (r *run) has(kind int) bool {
	return r.seen[kind] > 0
}

// act and the methods behind it do this for one kind of point each.
func (h *history) act(r *run) (api.Point, bool) {
	if r.op.Kind != api.OpPacket || r.has(api.PtAct) {
		return api.Point{}, false
	}
	if r.fault != api.OK {
		r.verdict = api.Malformed
		return api.Point{Verdict: r.verdict}, true
	}
	// Act would remove a flow that is over, too, but this has to have a point of its own.
	if h.wall.Delete(r.key) {
		return api.Point{}, false
	}
	r.verdict = h.wall.Act(r.packet)
	return api.Point{Key: r.key, Verdict: r.verdict}, true
}

func (h *history) count(r *run) (api.Point, bool) {
	if !r.has(api.PtAct) || r.has(api.PtCount) {
		return api.Point{}, false
	}
	h.wall.Count(r.verdict)
	return api.Point{Verdict: r.verdict}, true
}

// remove removes a flow. A collect and a flush may remove any, so that its key is that of the point.
func (h *history) remove(r *run, k api.Key) (api.Point, bool) {
	switch r.op.Kind {
	case api.OpPacket:
		if r.fault != api.OK || r.has(api.PtAct) {
			return api.Point{}, false
		}
		return api.Point{Key: r.key}, h.wall.Delete(r.key)
	case api.OpCollect:
		return api.Point{Key: k}, h.wall.Delete(k)
	case api.OpFlush:
		return api.Point{Key: k, N: 1}, h.wall.Drop(k)
	}
	return api.Point{}, false
}

func (h *history) tick(r *run) (api.Point, bool) {
	if r.op.Kind != api.OpTick || r.has(api.PtTick) {
		return api.Point{}, false
	}
	h.wall.Tick(r.op.N)
	r.n = h.wall.Gate().Clock
	return api.Point{N: r.op.N}, true
}

func (h *history) swap(r *run) (api.Point, bool) {
	if r.op.Kind != api.OpSwap || r.fault != api.OK || r.has(api.PtSwap) {
		return api.Point{}, false
	}
	version, e := h.wall.Swap(r.list)
	r.n = version
	return api.Point{N: version}, e == api.OK
}

func (h *history) stat(r *run) (api.Point, bool) {
	if r.op.Kind != api.OpStat || !isVerdict(r.op.N) || r.has(api.PtStat) {
		return api.Point{}, false
	}
	// A counter of 2^63 or above wraps around, as it does for the threads.
	r.n = int(h.wall.Stat(r.op.N))
	return api.Point{Verdict: r.op.N, N: r.n}, true
}

// isVerdict reports whether v is a verdict.
func isVerdict(v int) bool {
	return v >= api.Accept && v <= api.Full
}

func (h *history) end(r *run) (api.Point, bool) {
	n := r.n
	if r.op.Kind == api.OpCollect || r.op.Kind == api.OpFlush {
		n = r.seen[api.PtDelete]
	}
	return api.Point{Verdict: r.verdict, N: n}, h.isComplete(r)
}

// isComplete reports whether the op has the points without which it does not return.
func (h *history) isComplete(r *run) bool {
	switch r.op.Kind {
	case api.OpPacket:
		return r.has(api.PtCount)
	case api.OpTick:
		return r.has(api.PtTick)
	case api.OpStat:
		return r.has(api.PtStat) || !isVerdict(r.op.N)
	case api.OpSwap:
		// A swap changes nothing if there is no version behind the current one.
		return r.has(api.PtSwap) || r.fault != api.OK || h.wall.Gate().Version == api.MaxVersion
	}
	return true
}
