package mem

import (
	"math"
	"testing"

	"mantlet/api"
)

// P19.1: a mutex by its holder and by another thread, each call once and twice.
func TestLock(t *testing.T) {
	m := New(0, 2)
	wantHolders(t, m, -1, -1)
	wantUnlock(t, m, 1, 0, api.ErrMisuse)
	wantLock(t, m, 1, 0, true)
	wantHolders(t, m, 1, -1)
	wantLock(t, m, 1, 0, false)
	wantLock(t, m, 2, 0, false)
	wantLock(t, m, 0, 0, false)
	wantHolders(t, m, 1, -1)
	wantUnlock(t, m, 2, 0, api.ErrMisuse)
	wantUnlock(t, m, 0, 0, api.ErrMisuse)
	wantUnlock(t, m, 1, 1, api.ErrMisuse)
	wantHolders(t, m, 1, -1)
	wantUnlock(t, m, 1, 0, api.OK)
	wantHolders(t, m, -1, -1)
	wantUnlock(t, m, 1, 0, api.ErrMisuse)
	wantHolders(t, m, -1, -1)
	wantLock(t, m, 2, 0, true)
	wantHolders(t, m, 2, -1)
	wantUnlock(t, m, 1, 0, api.ErrMisuse)
	wantUnlock(t, m, 2, 0, api.OK)
	wantLock(t, m, 1, 0, true)
	wantUnlock(t, m, 1, 0, api.OK)
	wantHolders(t, m, -1, -1)
	wantLog(t, m,
		access(1, isLock, 1), access(1, isUnlock, 1), access(2, isLock, 1), access(2, isUnlock, 1),
		access(1, isLock, 1), access(1, isUnlock, 1))
}

// P19.1: thread 0 holds a mutex like any other, and a free one is not its own.
func TestLockZero(t *testing.T) {
	m := New(1, 2)
	wantUnlock(t, m, 0, 0, api.ErrMisuse)
	wantLock(t, m, 0, 0, true)
	wantHolders(t, m, 0, -1)
	wantLock(t, m, 0, 0, false)
	wantLock(t, m, 1, 0, false)
	wantUnlock(t, m, 0, 1, api.ErrMisuse)
	wantUnlock(t, m, 1, 0, api.ErrMisuse)
	wantUnlock(t, m, -1, 0, api.ErrMisuse)
	wantHolders(t, m, 0, -1)
	wantUnlock(t, m, 0, 0, api.OK)
	wantHolders(t, m, -1, -1)
	wantLog(t, m, access(0, isLock, 1), access(0, isUnlock, 1))
}

// P19.1: a thread may hold several mutexes, and each one has its own holder.
func TestLockSeveral(t *testing.T) {
	m := New(3, 4)
	wantLock(t, m, 5, 3, true)
	wantLock(t, m, 5, 1, true)
	wantLock(t, m, 6, 0, true)
	wantHolders(t, m, 6, 5, -1, 5)
	wantUnlock(t, m, 6, 3, api.ErrMisuse)
	wantUnlock(t, m, 5, 0, api.ErrMisuse)
	wantUnlock(t, m, 5, 3, api.OK)
	wantHolders(t, m, 6, 5, -1, -1)
	wantLock(t, m, 6, 3, true)
	wantHolders(t, m, 6, 5, -1, 6)
	wantWords(t, m, 0, 0, 0)
	wantLog(t, m,
		access(5, isLock, 10), access(5, isLock, 4), access(6, isLock, 1), access(5, isUnlock, 10), access(6, isLock, 10))
}

// P19.1: mutexes that are not there, by all threads: ErrNone comes before ErrMisuse.
func TestLockNone(t *testing.T) {
	for _, n := range []int{0, 1, 2, 8191, 8192} {
		m := New(5, n)
		if n > 0 {
			wantLock(t, m, 3, n-1, true)
		}
		before := m.Log()
		for _, i := range outside(n) {
			for _, thread := range someThreads() {
				wantLock(t, m, thread, i, false)
				wantUnlock(t, m, thread, i, api.ErrNone)
			}
			wantLock(t, m, 3, i, false)
			wantUnlock(t, m, 3, i, api.ErrNone)
			if got := m.Holder(i); got != -1 {
				t.Fatalf("Holder(%d) = %d", i, got)
			}
		}
		wantLog(t, m, before...)
		if n > 0 {
			wantUnlock(t, m, 3, n-1, api.OK)
		}
		wantHolders(t, m, free(n)...)
	}
}

// P19.1: More makes no mutexes, and words are no mutexes.
func TestLockBehindMore(t *testing.T) {
	m := New(2, 1)
	for range 5 {
		m.More(1)
	}
	wantLock(t, m, 1, 1, false)
	wantUnlock(t, m, 1, 1, api.ErrNone)
	wantLock(t, m, 1, 0, true)
	wantHolders(t, m, 1)
	wantWords(t, m, 0, 0, 1, 1, 1, 1, 1)
}

// P19.1: negative threads neither acquire a mutex nor free one, whoever holds it.
func TestLockNegative(t *testing.T) {
	for _, thread := range someThreads() {
		if thread >= 0 {
			continue
		}
		m := New(1, 2)
		for _, holder := range []int{-1, 0, 1, math.MaxInt, -(thread + 1)} {
			if holder >= 0 {
				wantLock(t, m, holder, 1, true)
			}
			before := m.Log()
			for range 2 {
				wantLock(t, m, thread, 1, false)
				wantUnlock(t, m, thread, 1, api.ErrMisuse)
				wantLock(t, m, thread, 0, false)
				wantUnlock(t, m, thread, 0, api.ErrMisuse)
				wantLock(t, m, thread, 2, false)
				wantUnlock(t, m, thread, 2, api.ErrNone)
			}
			wantHolders(t, m, -1, holder)
			wantLog(t, m, before...)
			if holder >= 0 {
				wantUnlock(t, m, holder, 1, api.OK)
			}
		}
	}
}

// P19.1, P19.2: all threads that are not negative hold mutexes, and no other one frees them.
func TestLockThreads(t *testing.T) {
	for _, thread := range someThreads() {
		if thread < 0 {
			continue
		}
		m := New(0, 3)
		wantLock(t, m, thread, 1, true)
		wantHolders(t, m, -1, thread, -1)
		for _, other := range someThreads() {
			wantLock(t, m, other, 1, false)
			if other != thread {
				wantUnlock(t, m, other, 1, api.ErrMisuse)
			}
			wantHolders(t, m, -1, thread, -1)
		}
		wantUnlock(t, m, thread, 1, api.OK)
		wantUnlock(t, m, thread, 1, api.ErrMisuse)
		wantHolders(t, m, -1, -1, -1)
		wantLog(t, m, access(thread, isLock, 4), access(thread, isUnlock, 4))
	}
}

// P19.1, P19.2: words are for all threads, negative ones too, whoever holds a mutex.
func TestWordThreads(t *testing.T) {
	for _, thread := range someThreads() {
		m := New(2, 1)
		wantLock(t, m, 1, 0, true)
		wantLoad(t, m, thread, 1, 0)
		wantSwap(t, m, thread, 1, 0, 6, true)
		wantSwap(t, m, thread, 1, 0, 7, false)
		wantLoad(t, m, thread, 1, 6)
		m.Read(thread, 2)
		m.Write(thread, 2)
		wantWords(t, m, 0, 6)
		wantHolders(t, m, 1)
		wantLog(t, m,
			access(1, isLock, 1), access(thread, isLoad, 3), access(thread, isStore, 3), access(thread, isLoad, 3),
			access(thread, isLoad, 3), access(thread, isRead, 8), access(thread, isWrite, 8))
	}
}

// A nil *Mem has nothing, does nothing, and says so.
func TestNil(t *testing.T) {
	var m *Mem
	for _, thread := range someThreads() {
		for _, n := range someThreads() {
			m.Read(thread, n)
			m.Write(thread, n)
			wantLoad(t, m, thread, n, 0)
			wantSwap(t, m, thread, n, 0, 0, false)
			wantSwap(t, m, thread, n, 1, 2, false)
			wantLock(t, m, thread, n, false)
			wantUnlock(t, m, thread, n, api.ErrArg)
			if w, h := m.Look(n), m.Holder(n); w != 0 || h != -1 {
				t.Fatalf("Look(%d) = %d, Holder(%d) = %d", n, w, n, h)
			}
		}
	}
	for _, v := range someValues() {
		if n := m.More(v); n != 0 {
			t.Fatalf("More(%d) = %d", v, n)
		}
	}
	if n, l := m.Words(), m.Log(); n != 0 || l != nil {
		t.Fatalf("%d words, log %v", n, l)
	}
}
