package prog

import (
	"iter"
	"math"
	"slices"

	"mantlet/api"
	"mantlet/fsm"
	"mantlet/key"
	"mantlet/match"
	"mantlet/rules"
	"mantlet/wire"
)

// slow is a second implementation, by the document's words. Its gate and flows are not packed, its table is a list, and each op is a piece of code that goes on from act to act.
type slow struct {
	c      api.Config
	gate   api.Gate
	counts [6]uint64
	words  map[int]api.Flow // of flows, by their numbers
	table  []slowFlow
	rules  map[int][]api.Rule // by versions
	held   map[int]int        // the holders of the mutexes that are not free
	log    []api.Access
	points []*api.Point // nil where a mark is not filled
	ways   map[string]int
}

// slowFlow is a flow of the table.
type slowFlow struct {
	key    api.Key
	word   int
	turned bool
}

// newSlow returns a shared state.
func newSlow(c api.Config, list []api.Rule) *slow {
	return &slow{c: c, words: map[int]api.Flow{}, rules: map[int][]api.Rule{0: list}, held: map[int]int{}, ways: map[string]int{}}
}

// visible returns the points.
func (s *slow) visible() []api.Point {
	var list []api.Point
	for _, p := range s.points {
		if p != nil {
			list = append(list, *p)
		}
	}
	return list
}

// keys returns the keys of all flows, in order.
func (s *slow) keys() []api.Key {
	var list []api.Key
	for _, f := range s.table {
		list = append(list, f.key)
	}
	slices.SortFunc(list, func(a, b api.Key) int {
		if key.Less(a, b) {
			return -1
		}
		return 1
	})
	return list
}

// over goes by the document's words.
func (s *slow) over(f api.Flow, clock int) bool {
	return f.State == 0 || f.State == 15 || f.Until <= clock || f.Seq == topSeq
}

// following goes by the document's words.
func (s *slow) following(f api.Flow, state, until int) api.Flow {
	return api.Flow{State: state, Seq: min(f.Seq+1, topSeq), Until: min(max(until, 0), topClock)}
}

// until goes by the document's words.
func (s *slow) until(state, clock int) int {
	return min(clock+min(max(s.c.Times[state], 1), 1<<20), topClock)
}

// index returns the index of the flow with this key, or -1.
func (s *slow) index(k api.Key) int {
	return slices.IndexFunc(s.table, func(f slowFlow) bool { return f.key == k })
}

// slowRun is an op.
type slowRun struct {
	*slow
	thread, number int
	x              api.Op
	resume         func() (int, bool)
	wants          int // the mutex that the next act locks, or -1
	called, over   bool
	reply          api.Reply
	yield          func(int) bool
	label          string // the act that was performed last
}

// begin begins an op. It goes on until its first act is to be performed.
func (s *slow) begin(thread, number int, x api.Op) *slowRun {
	r := &slowRun{slow: s, thread: thread, number: number, x: x}
	r.resume, _ = iter.Pull(func(yield func(int) bool) {
		r.yield = yield
		r.all()
	})
	r.wants, _ = r.resume()
	return r
}

// blocked reports whether the op waits.
func (r *slowRun) blocked() bool {
	_, held := r.held[r.wants]
	return !r.over && held
}

// step performs the next act.
func (r *slowRun) step() bool {
	if r.over || r.blocked() {
		return false
	}
	if !r.called {
		r.called = true
		r.point(api.PtCall, 0, 0, api.Key{})
	}
	if r.wants >= 0 {
		r.held[r.wants] = r.thread
		r.access(api.MemLock, 3*r.wants+1)
	}
	wants, more := r.resume()
	r.wants = wants
	if !more {
		r.point(api.PtReturn, r.reply.Verdict, r.reply.N, api.Key{})
		r.over = true
	}
	return true
}

// done returns the reply.
func (r *slowRun) done() (api.Reply, bool) {
	if !r.over {
		return api.Reply{}, false
	}
	return r.reply, true
}

// act waits until the next act is to be performed, which has this name.
func (r *slowRun) act(name string) {
	r.actLock(name, -1)
}

// actLock is act for an act that locks a mutex.
func (r *slowRun) actLock(name string, mutex int) {
	r.yield(mutex)
	r.ways[r.label+" "+name]++
	r.label = name
}

// access logs an access.
func (r *slowRun) access(kind, place int) {
	r.log = append(r.log, api.Access{Thread: r.thread, Kind: kind, Place: place})
}

// newPoint returns a point.
func (r *slowRun) newPoint(kind, verdict, n int, k api.Key) *api.Point {
	return &api.Point{Kind: kind, Thread: r.thread, Op: r.number, Key: k, Verdict: verdict, N: n}
}

// point records a point.
func (r *slowRun) point(kind, verdict, n int, k api.Key) {
	r.points = append(r.points, r.newPoint(kind, verdict, n, k))
}

// unlock unlocks a mutex.
func (r *slowRun) unlock(mutex int) {
	if holder, held := r.held[mutex]; !held || holder != r.thread {
		panic("misuse")
	}
	delete(r.held, mutex)
	r.access(api.MemUnlock, 3*mutex+1)
}

// find finds a flow.
func (r *slowRun) find(k api.Key) (f slowFlow, ok bool) {
	r.access(api.MemRead, 3*key.Stripe(k, r.c.Stripes)+2)
	if i := r.index(k); i >= 0 {
		return r.table[i], true
	}
	return f, false
}

// remove removes a flow.
func (r *slowRun) remove(k api.Key) {
	r.access(api.MemWrite, 3*key.Stripe(k, r.c.Stripes)+2)
	i := r.index(k)
	r.table = slices.Delete(r.table, i, i+1)
}

// swapped logs a Swap and returns whether it was successful.
func (r *slowRun) swapped(word int, ok bool) bool {
	if ok {
		r.access(api.MemStore, 3*word)
	} else {
		r.access(api.MemLoad, 3*word)
	}
	return ok
}

// loadGate loads the gate.
func (r *slowRun) loadGate() api.Gate {
	r.access(api.MemLoad, 0)
	return r.gate
}

// swapGate swaps the gate.
func (r *slowRun) swapGate(old, now api.Gate) bool {
	ok := r.gate == old
	if ok {
		r.gate = now
	}
	return r.swapped(0, ok)
}

// loadFlow loads a flow's word.
func (r *slowRun) loadFlow(word int) api.Flow {
	r.access(api.MemLoad, 3*word)
	return r.words[word]
}

// swapFlow swaps a flow's word.
func (r *slowRun) swapFlow(word int, old, now api.Flow) bool {
	ok := r.words[word] == old
	if ok {
		r.words[word] = now
	}
	return r.swapped(word, ok)
}

// dead is the flow of a word that is Dead.
func dead() api.Flow { return api.Flow{State: 15} }

// all goes through all acts of the op.
func (r *slowRun) all() {
	switch r.x.Kind {
	case 1:
		r.packet()
	case 2:
		r.tick()
	case 3:
		r.swap()
	case 4, 6:
		r.sweep()
	case 5:
		r.stat()
	default:
		r.act("unknown")
		r.reply.E = api.ErrArg
	}
	r.ways[r.label+" return"]++
}

// packet goes by the document's words.
func (r *slowRun) packet() {
	var (
		k            api.Key
		stripe, next int
		down, ok     bool
		f            slowFlow
		w            api.Flow
		g            api.Gate
		mark         int
	)
	p, e := wire.Parse(r.x.B)
	if e != api.OK {
		r.act("malformed")
		r.point(api.PtAct, 2, 0, api.Key{})
		r.reply = api.Reply{E: e, Verdict: 2}
		r.count(true)
		return
	}
	k, down = key.Of(p)
	stripe = key.Stripe(k, r.c.Stripes)
find:
	r.actLock("find", stripe)
	if f, ok = r.find(k); !ok {
		goto absent
	}
release:
	r.act("release")
	r.unlock(stripe)
load:
	r.act("load")
	w = r.loadFlow(f.word)
	if w.State == 15 {
		goto find
	}
	r.act("judge")
	g = r.loadGate()
	mark = len(r.points)
	r.points = append(r.points, nil)
	if r.slow.over(w, g.Clock) {
		goto look
	}
	if next, ok = fsm.Next(w.State, down != f.turned, p); !ok {
		goto sure
	}
	r.act("advance")
	if !r.swapFlow(f.word, w, r.following(w, next, r.until(next, g.Clock))) {
		goto load
	}
	r.points[mark] = r.newPoint(api.PtAct, 1, 0, k)
	r.reply.Verdict = 1
	r.count(false)
	return
sure:
	r.act("sure")
	if !r.swapFlow(f.word, w, r.following(w, w.State, w.Until)) {
		goto load
	}
	r.points[mark] = r.newPoint(api.PtAct, 4, 0, k)
	r.reply.Verdict = 4
	r.count(false)
	return
look:
	r.actLock("look", stripe)
	if f, ok = r.find(k); !ok {
		goto absent
	}
again:
	r.act("again")
	w = r.loadFlow(f.word)
	r.act("over")
	g = r.loadGate()
	if !r.slow.over(w, g.Clock) {
		goto release
	}
	r.act("kill")
	if !r.swapFlow(f.word, w, dead()) {
		goto again
	}
	r.remove(k)
	r.less(k, 0)
absent:
	r.act("absent")
	g = r.loadGate()
	r.access(api.MemRead, 3*(r.c.Stripes+g.Version)+2)
	r.reply.Verdict = 1
	_, accept := match.First(r.rules[g.Version], p)
	state, opens := fsm.Open(p)
	if g.Count >= r.c.Cap {
		r.reply.Verdict = 5
	}
	if !opens {
		r.reply.Verdict = 4
	}
	if !accept {
		r.reply.Verdict = 3
	}
	if r.reply.Verdict == 1 {
		r.act("enter")
		now := g
		now.Count++
		if !r.swapGate(g, now) {
			goto absent
		}
		word := 6 + len(r.words)
		r.words[word] = api.Flow{State: state, Seq: 1, Until: r.until(state, g.Clock)}
		r.access(api.MemWrite, 3*stripe+2)
		r.table = append(r.table, slowFlow{k, word, down})
	}
	r.point(api.PtAct, r.reply.Verdict, 0, k)
	r.act("unlock")
	r.unlock(stripe)
	r.count(false)
}

// count goes by the document's words; begun, if its first act has begun.
func (r *slowRun) count(begun bool) {
	v := r.reply.Verdict
	for {
		if !begun {
			r.act("count")
		}
		begun = false
		r.access(api.MemLoad, 3*v)
		n := r.counts[v]
		if n == math.MaxUint64 {
			break
		}
		r.act("add")
		ok := r.counts[v] == n
		if r.swapped(v, ok) {
			r.counts[v]++
			break
		}
	}
	r.point(api.PtCount, v, 0, api.Key{})
}

// less is less and leave.
func (r *slowRun) less(k api.Key, n int) {
	for {
		r.act("less")
		g := r.loadGate()
		r.act("leave")
		now := g
		now.Count--
		if r.swapGate(g, now) {
			r.point(api.PtDelete, 0, n, k)
			return
		}
	}
}

// tick goes by the document's words.
func (r *slowRun) tick() {
	for {
		r.act("tick load")
		g := r.loadGate()
		r.act("tick swap")
		now := g
		// Neither sum can overflow: the clock has 40 bits.
		if r.x.N > topClock-g.Clock {
			now.Clock = topClock
		} else if r.x.N > 0 {
			now.Clock += r.x.N
		}
		if r.swapGate(g, now) {
			r.point(api.PtTick, 0, r.x.N, api.Key{})
			r.reply.N = now.Clock
			return
		}
	}
}

// swap goes by the document's words.
func (r *slowRun) swap() {
	list, _, e := rules.Compile(r.x.S)
	if e != api.OK {
		r.act("swap error")
		r.reply.E = e
		return
	}
	mutex := r.c.Stripes
	r.actLock("swap lock", mutex)
	for {
		r.act("swap load")
		g := r.loadGate()
		if g.Version == topVersion {
			r.reply.E = api.ErrOver
			break
		}
		r.access(api.MemWrite, 3*(r.c.Stripes+g.Version+1)+2)
		r.rules[g.Version+1] = list
		r.act("swap swap")
		now := g
		now.Version++
		if r.swapGate(g, now) {
			r.point(api.PtSwap, 0, now.Version, api.Key{})
			r.reply.N = now.Version
			break
		}
	}
	r.act("swap unlock")
	r.unlock(mutex)
}

// stat goes by the document's words.
func (r *slowRun) stat() {
	r.act("stat")
	if r.x.N < 1 || r.x.N > 5 {
		r.reply.E = api.ErrArg
		return
	}
	r.access(api.MemLoad, 3*r.x.N)
	r.reply.N = int(r.counts[r.x.N])
	r.point(api.PtStat, r.x.N, r.reply.N, api.Key{})
}

// sweep goes by the document's words.
func (r *slowRun) sweep() {
	n := 0
	if r.x.Kind == isFlush {
		n = 1
	}
	for stripe := range r.c.Stripes {
		r.actLock("sweep lock", stripe)
		r.access(api.MemRead, 3*stripe+2)
		for _, k := range r.keys() {
			if key.Stripe(k, r.c.Stripes) == stripe && r.swept(k, n) {
				r.less(k, n)
				r.reply.N++
			}
		}
		r.act("sweep unlock")
		r.unlock(stripe)
	}
}

// swept makes a flow Dead and removes it, or returns false if it is spared.
func (r *slowRun) swept(k api.Key, n int) bool {
	for {
		r.act("sweep find")
		f, _ := r.find(k)
		w := r.loadFlow(f.word)
		if n == 0 {
			r.act("sweep gate")
			if g := r.loadGate(); !r.slow.over(w, g.Clock) {
				return false
			}
		}
		r.act("sweep kill")
		if r.swapFlow(f.word, w, dead()) {
			r.remove(k)
			return true
		}
	}
}
