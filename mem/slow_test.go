package mem

import (
	"math/rand"
	"slices"
	"testing"

	"mantlet/api"
)

// slow is a second implementation, by the document's words: what is there is in maps.
type slow struct {
	words map[int]uint64 // by their numbers
	locks map[int]bool   // those that there are
	held  map[int]int    // the holders of those that are not free
	log   []api.Access
}

// newSlow makes words and mutexes one by one.
func newSlow(words, locks int) *slow {
	s := &slow{words: map[int]uint64{}, locks: map[int]bool{}, held: map[int]int{}}
	for i := 0; i < words && i < 8192; i++ {
		s.words[i] = 0
	}
	for i := 0; i < locks && i < 8192; i++ {
		s.locks[i] = true
	}
	return s
}

// more goes by the document's words.
func (s *slow) more(w uint64) int {
	n := len(s.words)
	s.words[n] = w
	return n
}

// load goes by the document's words.
func (s *slow) load(thread, word int) uint64 {
	w, ok := s.words[word]
	if ok {
		s.log = append(s.log, access(thread, isLoad, 3*word))
	}
	return w
}

// swap goes by the document's words.
func (s *slow) swap(thread, word int, old, now uint64) bool {
	w, ok := s.words[word]
	if ok && w == old {
		s.words[word] = now
		s.log = append(s.log, access(thread, isStore, 3*word))
		return true
	}
	if ok {
		s.log = append(s.log, access(thread, isLoad, 3*word))
	}
	return false
}

// lock goes by the document's words.
func (s *slow) lock(thread, lock int) bool {
	_, held := s.held[lock]
	if !s.locks[lock] || held || thread < 0 {
		return false
	}
	s.held[lock] = thread
	s.log = append(s.log, access(thread, isLock, 3*lock+1))
	return true
}

// unlock goes by the document's words.
func (s *slow) unlock(thread, lock int) api.Errno {
	if !s.locks[lock] {
		return api.ErrNone
	}
	if holder, held := s.held[lock]; !held || holder != thread {
		return api.ErrMisuse
	}
	delete(s.held, lock)
	s.log = append(s.log, access(thread, isUnlock, 3*lock+1))
	return api.OK
}

// holder goes by the document's words.
func (s *slow) holder(lock int) int {
	if thread, held := s.held[lock]; held {
		return thread
	}
	return -1
}

// touch is read and write.
func (s *slow) touch(thread, kind, place int) {
	if place >= 0 && place <= topPlace {
		s.log = append(s.log, access(thread, kind, 3*place+2))
	}
}

// The kinds of calls.
const (
	callMore = iota
	callLoad
	callSwap
	callLook
	callLock
	callUnlock
	callHolder
	callRead
	callWrite
	callWords
	callKinds
)

// call is a call, with all arguments that it might need.
type call struct {
	kind, thread, n int
	old, now        uint64
}

// result is what a call returned.
type result struct {
	w  uint64
	n  int
	ok bool
	e  api.Errno
}

// do makes the call.
func (c call) do(m *Mem) (r result) {
	switch c.kind {
	case callMore:
		r.n = m.More(c.now)
	case callLoad:
		r.w = m.Load(c.thread, c.n)
	case callSwap:
		r.ok = m.Swap(c.thread, c.n, c.old, c.now)
	case callLook:
		r.w = m.Look(c.n)
	case callLock:
		r.ok = m.Lock(c.thread, c.n)
	case callUnlock:
		r.e = m.Unlock(c.thread, c.n)
	case callHolder:
		r.n = m.Holder(c.n)
	case callRead:
		m.Read(c.thread, c.n)
	case callWrite:
		m.Write(c.thread, c.n)
	case callWords:
		r.n = m.Words()
	}
	return r
}

// doSlow makes the call of the second implementation.
func (c call) doSlow(s *slow) (r result) {
	switch c.kind {
	case callMore:
		r.n = s.more(c.now)
	case callLoad:
		r.w = s.load(c.thread, c.n)
	case callSwap:
		r.ok = s.swap(c.thread, c.n, c.old, c.now)
	case callLook:
		r.w = s.words[c.n]
	case callLock:
		r.ok = s.lock(c.thread, c.n)
	case callUnlock:
		r.e = s.unlock(c.thread, c.n)
	case callHolder:
		r.n = s.holder(c.n)
	case callRead:
		s.touch(c.thread, isRead, c.n)
	case callWrite:
		s.touch(c.thread, isWrite, c.n)
	case callWords:
		r.n = len(s.words)
	}
	return r
}

// source makes arbitrary calls.
type source struct {
	*rand.Rand
	near int // most words, mutexes and plain locations are below
}

// number returns the number of a word, a mutex or a plain location, or one of none.
func (s source) number() int {
	switch s.Intn(12) {
	case 0:
		return edges()[s.Intn(len(edges()))]
	case 1:
		return s.Intn(4) - 2 + []int{8192, topPlace}[s.Intn(2)]
	}
	return s.Intn(s.near+2) - 1
}

// thread returns one of few threads, seldom another one.
func (s source) thread() int {
	if s.Intn(12) == 0 {
		return someThreads()[s.Intn(len(someThreads()))]
	}
	return s.Intn(5) - 1
}

// value returns a value of a word.
func (s source) value() uint64 {
	if s.Intn(8) == 0 {
		return someValues()[s.Intn(len(someValues()))]
	}
	return uint64(s.Intn(2))
}

// call returns a call: seldom More, so that the words do not become too many.
func (s source) call() call {
	c := call{s.Intn(callKinds), s.thread(), s.number(), s.value(), s.value()}
	if c.kind == callMore {
		c.kind = []int{callMore, callSwap, callUnlock, callUnlock}[s.Intn(4)]
	}
	return c
}

// size returns what New may be asked for.
func (s source) size() int {
	if s.Intn(10) == 0 {
		return []int{-1, 8191, 8192, 8193}[s.Intn(4)]
	}
	return s.Intn(s.near + 2)
}

// wantSame fails the test unless the memory is that of the second implementation.
func wantSame(t *testing.T, m *Mem, s *slow) {
	t.Helper()
	words := make([]uint64, len(s.words))
	for i, w := range s.words {
		words[i] = w
	}
	wantWords(t, m, words...)
	holders := free(len(s.locks))
	for i, thread := range s.held {
		holders[i] = thread
	}
	wantHolders(t, m, holders...)
	wantLog(t, m, s.log...)
}

// P19.1, P19.2: long arbitrary sequences of all calls, against the second implementation.
func TestArbitrary(t *testing.T) {
	kinds := map[int]int{}
	errs := map[api.Errno]int{}
	for seed := range 80 {
		r := source{rand.New(rand.NewSource(int64(seed))), 1 + seed%9}
		words, locks := r.size(), r.size()
		m, s := New(words, locks), newSlow(words, locks)
		for i := range 2500 {
			x := r.call()
			got, want := x.do(m), x.doSlow(s)
			if got != want {
				t.Fatalf("seed %d, call %d, %+v: %+v, want %+v", seed, i, x, got, want)
			}
			if i%10 == 0 || i < 50 {
				wantSame(t, m, s)
			}
			if x.kind == callUnlock {
				errs[got.e]++
			}
		}
		wantSame(t, m, s)
		for _, a := range s.log {
			kinds[a.Kind]++
		}
	}
	for kind := isLock; kind <= isWrite; kind++ {
		if kinds[kind] < 1000 {
			t.Errorf("%d accesses of kind %d: the arbitrary ones tell little", kinds[kind], kind)
		}
	}
	for _, e := range []api.Errno{api.OK, api.ErrNone, api.ErrMisuse} {
		if errs[e] < 500 {
			t.Errorf("error %d of Unlock %d times: the arbitrary ones tell little", e, errs[e])
		}
	}
}

// R5: the same sequence of calls returns the same each time, also when another memory is used in between.
func TestSameAgain(t *testing.T) {
	for seed := range 10 {
		var before []result
		var log []api.Access
		for round := range 3 {
			r := source{rand.New(rand.NewSource(int64(1000 + seed))), 4}
			m, other := New(r.size(), r.size()), New(3, 3)
			for i := range 1000 {
				x := r.call()
				got := x.do(m)
				if round == 0 {
					before = append(before, got)
				} else if got != before[i] {
					t.Fatalf("seed %d, round %d, call %d: %+v, and before %+v", seed, round, i, got, before[i])
				}
				if round == 2 {
					call{(i + 1) % callKinds, i % 3, i % 4, 0, 1}.do(other)
				}
			}
			if round == 0 {
				log = m.Log()
			} else if !slices.Equal(m.Log(), log) {
				t.Fatalf("seed %d, round %d: another log", seed, round)
			}
		}
	}
}
