package table

import (
	"math/rand"
	"slices"
	"testing"

	"mantlet/api"
	"mantlet/mem"
)

// slow is a second implementation, by the document's words: its flows are a plain list, in the order of the keys.
type slow struct {
	stripes int
	held    map[int]int // the holders of the mutexes that are not free
	flows   []slowFlow
	log     []api.Access
}

// slowFlow is a flow, with its key.
type slowFlow struct {
	key    api.Key
	word   int
	turned bool
}

// may reports whether the thread may access a stripe.
func (s *slow) may(thread, stripe int) bool {
	holder, held := s.held[stripe]
	return held && holder == thread
}

// touch makes an access to the stripe's location.
func (s *slow) touch(thread, kind, stripe int) {
	s.log = append(s.log, access(thread, kind, 3*stripe+2))
}

// search returns where the flow with this key is or would be, and whether it is there.
func (s *slow) search(k api.Key) (int, bool) {
	return slices.BinarySearchFunc(s.flows, k, func(f slowFlow, k api.Key) int { return compare(f.key, k) })
}

// find goes by the document's words.
func (s *slow) find(thread int, k api.Key) (r result) {
	n := stripeNumber(k, s.stripes)
	if !s.may(thread, n) {
		return result{e: api.ErrMisuse}
	}
	s.touch(thread, isRead, n)
	if i, ok := s.search(k); ok {
		r = result{n: s.flows[i].word, turned: s.flows[i].turned, ok: true}
	}
	return r
}

// put goes by the document's words.
func (s *slow) put(thread int, f slowFlow) api.Errno {
	n := stripeNumber(f.key, s.stripes)
	if !s.may(thread, n) {
		return api.ErrMisuse
	}
	s.touch(thread, isWrite, n)
	i, ok := s.search(f.key)
	if !ok {
		s.flows = slices.Insert(s.flows, i, slowFlow{})
	}
	s.flows[i] = f
	return api.OK
}

// remove goes by the document's words.
func (s *slow) remove(thread int, k api.Key) api.Errno {
	n := stripeNumber(k, s.stripes)
	if !s.may(thread, n) {
		return api.ErrMisuse
	}
	s.touch(thread, isWrite, n)
	i, ok := s.search(k)
	if !ok {
		return api.ErrNone
	}
	s.flows = slices.Delete(s.flows, i, i+1)
	return api.OK
}

// keys goes by the document's words.
func (s *slow) keys(thread, stripe int) ([]api.Key, api.Errno) {
	if stripe < 0 || stripe >= s.stripes {
		return nil, api.ErrArg
	}
	if !s.may(thread, stripe) {
		return nil, api.ErrMisuse
	}
	s.touch(thread, isRead, stripe)
	return slices.DeleteFunc(s.all(), func(k api.Key) bool { return stripeNumber(k, s.stripes) != stripe }), api.OK
}

// all goes by the document's words.
func (s *slow) all() []api.Key {
	var list []api.Key
	for _, f := range s.flows {
		list = append(list, f.key)
	}
	return list
}

// The kinds of calls.
const (
	callLock = iota // and unlock, if the mutex is held
	callFind
	callPut
	callRemove
	callKeys
	callAll
	callKinds
)

// call is a call, with all arguments that it might need.
type call struct {
	kind, thread, n int
	flow            slowFlow
}

// result is what a call returned, but for keys.
type result struct {
	n          int
	turned, ok bool
	e          api.Errno
}

// do makes the call.
func (c call) do(x *Table, m *mem.Mem) (r result, keys []api.Key) {
	switch c.kind {
	case callLock:
		if h := m.Holder(c.n); h >= 0 {
			r.e = m.Unlock(h, c.n)
		} else {
			r.ok = m.Lock(c.thread, c.n)
		}
	case callFind:
		r.n, r.turned, r.ok, r.e = x.Find(c.thread, c.flow.key)
	case callPut:
		r.e = x.Put(c.thread, c.flow.key, c.flow.word, c.flow.turned)
	case callRemove:
		r.e = x.Remove(c.thread, c.flow.key)
	case callKeys:
		keys, r.e = x.Keys(c.thread, c.n)
	case callAll:
		keys = x.All()
	}
	return r, keys
}

// doSlow makes the call of the second implementation, which has as many mutexes as stripes.
func (c call) doSlow(s *slow) (r result, keys []api.Key) {
	switch c.kind {
	case callLock:
		if h, held := s.held[c.n]; held {
			delete(s.held, c.n)
			s.log = append(s.log, access(h, isUnlock, 3*c.n+1))
		} else if c.thread >= 0 && c.n >= 0 && c.n < s.stripes {
			s.held[c.n] = c.thread
			s.log = append(s.log, access(c.thread, isLock, 3*c.n+1))
			r.ok = true
		}
	case callFind:
		r = s.find(c.thread, c.flow.key)
	case callPut:
		r.e = s.put(c.thread, c.flow)
	case callRemove:
		r.e = s.remove(c.thread, c.flow.key)
	case callKeys:
		keys, r.e = s.keys(c.thread, c.n)
	case callAll:
		keys = s.all()
	}
	return r, keys
}

// source makes arbitrary calls.
type source struct {
	*rand.Rand
	stripes int
	keys    []api.Key
}

// thread returns one of few threads, seldom another one.
func (s source) thread() int {
	if s.Intn(20) == 0 {
		return someThreads()[s.Intn(len(someThreads()))]
	}
	return s.Intn(3)
}

// stripe returns a stripe, seldom one that is not there.
func (s source) stripe() int {
	if s.Intn(20) == 0 {
		return edges()[s.Intn(len(edges()))]
	}
	return s.Intn(s.stripes+2) - 1
}

// call returns a call.
func (s source) call() call {
	k := s.keys[s.Intn(len(s.keys))]
	return call{s.Intn(callKinds), s.thread(), s.stripe(), slowFlow{k, s.Intn(9) - 1, s.Intn(2) == 0}}
}

// start returns a table, its memory, and arbitrary calls for it.
func start(seed int) (*Table, *mem.Mem, source) {
	r := source{Rand: rand.New(rand.NewSource(int64(seed))), stripes: 1 << (seed % 5)}
	for range 10 + seed {
		r.keys = append(r.keys, api.Key{
			Addr:  [2]uint32{uint32(r.Intn(3)) << r.Intn(31), uint32(r.Intn(3)) << r.Intn(31)},
			Port:  [2]uint16{uint16(r.Intn(3)) << r.Intn(15), uint16(r.Intn(3)) << r.Intn(15)},
			Proto: uint8(r.Intn(3)),
		})
	}
	m := mem.New(0, r.stripes)
	return New(m, r.stripes), m, r
}

// P20.1, P20.2, P20.3: long arbitrary sequences of all calls, against the second implementation.
func TestArbitrary(t *testing.T) {
	errs := map[api.Errno]int{}
	found := map[bool]int{}
	for seed := range 60 {
		x, m, r := start(seed)
		s := &slow{stripes: r.stripes, held: map[int]int{}}
		for i := range 2500 {
			c := r.call()
			got, keys := c.do(x, m)
			want, list := c.doSlow(s)
			if got != want || !slices.Equal(keys, list) {
				t.Fatalf("seed %d, call %d, %+v: %+v, %v, want %+v, %v", seed, i, c, got, keys, want, list)
			}
			if i%20 == 0 || i < 100 {
				wantSince(t, m, 0, s.log...)
				wantAll(t, x, s.all()...)
			}
			errs[got.e]++
			if c.kind == callFind && got.e == api.OK {
				found[got.ok]++
			}
		}
		wantSince(t, m, 0, s.log...)
		wantAll(t, x, s.all()...)
	}
	for _, e := range []api.Errno{api.OK, api.ErrArg, api.ErrMisuse, api.ErrNone} {
		if errs[e] < 1000 {
			t.Errorf("error %d only %d times: the arbitrary calls tell little", e, errs[e])
		}
	}
	if found[true] < 1000 || found[false] < 1000 {
		t.Errorf("found and not found %v: the arbitrary calls tell little", found)
	}
}

// R5: the same sequence of calls returns the same each time, also when another table is used in between.
func TestSameAgain(t *testing.T) {
	for seed := range 10 {
		var before []result
		var lists [][]api.Key
		for round := range 4 {
			x, m, r := start(seed)
			y, other, _ := start(seed + 1)
			for i := range 1000 {
				c := r.call()
				got, keys := c.do(x, m)
				if round == 0 {
					before, lists = append(before, got), append(lists, keys)
				} else if got != before[i] || !slices.Equal(keys, lists[i]) {
					t.Fatalf("seed %d, round %d, call %d: %+v, %v, and before %+v, %v", seed, round, i, got, keys, before[i], lists[i])
				}
				if round > 1 {
					call{i % callKinds, 1, i % 4, slowFlow{key: c.flow.key}}.do(y, other)
				}
			}
		}
	}
}
